/-
  Carried over from another seat of ours (H).
-/
import Derived.Test.YtggkjkkbkpnkiaaGreatDoorE
import Derived.Test.YtggkjkkbkpnkiaaGreatDoorF
import Derived.Test.YtggkjkkbkpnkiaaGreatDoorG
set_option linter.unusedVariables false
set_option linter.unusedSimpArgs false
namespace Go.Proofs.YtggkjkkbkpnkiaaGreatDoor
open Go.RowKit Go.Maps

/-- A token: its kind, text, number, bytes, place. -/
structure Tok where
  k : Int
  s : ByteArray
  n : Int
  b : List Int
  at' : Nat
abbrev e0 : ByteArray := ⟨#[]⟩
abbrev nl : Value := .slice none 0 0
/-- The bytes of a text. -/
def sb (l : List Int) : ByteArray := ⟨(l.map (fun c => UInt8.ofNat c.toNat)).toArray⟩
/-- The token that begins at i, and the place behind it, or what is wrong. -/
def tokV (s : ByteArray) (i : Nat) : Except Int (Tok × Nat) :=
  if dig (pk s i) = true then
    (if 4611686018427387903 < dvx s i (span dig s i) ∨ inN (pk s (span dig s i)) = true then .error 152 else .ok (⟨1, e0, dvx s i (span dig s i), [], i⟩, span dig s i))
  else if pk s i = 34 then
    (match qtd s i with | none => .error 154 | some (l, j) => .ok (⟨4, e0, 0, l, i⟩, j))
  else if low (pk s i) = true ∨ vab (pk s i) = true then
    (if 32 < span inN s i - i then .error 153
     else .ok (⟨if wrd (s.extract i (span inN s i)) = true then 6 else if low (pk s i) = true then 2 else 3, s.extract i (span inN s i), 0, [], i⟩, span inN s i))
  else (match sgn s i with | none => .error 151 | some l => .ok (⟨5, sb l, 0, [], i⟩, i + l.length))

/-- A token in memory. -/
abbrev tkv (k : Int) (s : ByteArray) (n : Int) (sv : Value) (i : Nat) : Value := .agg #[.int .i64 k, .string s, .int .i64 n, sv, .int .i64 (i : Int)]
def Tk (W : World) (b : Nat) (k : Int) (s : ByteArray) (n : Int) (sv : Value) (i : Nat) : Prop := W.heap[b]? = some (.cells #[.int .i64 k, .string s, .int .i64 n, sv, .int .i64 (i : Int)] 27 (0, 0))
theorem Tk.facts {W : World} {b : Nat} {k : Int} {s : ByteArray} {n : Int} {sv : Value} {i : Nat} (h : Tk W b k s n sv i) :
    (W.cell? ⟨b, 0, none⟩ = some (.int .i64 k) ∧ W.cell? ⟨b, 1, none⟩ = some (.string s) ∧ W.cell? ⟨b, 2, none⟩ = some (.int .i64 n) ∧ W.cell? ⟨b, 3, none⟩ = some sv ∧ W.cell? ⟨b, 4, none⟩ = some (.int .i64 (i : Int))) ∧
    (W.frozen? ⟨b, 0, none⟩ = false ∧ W.frozen? ⟨b, 1, none⟩ = false ∧ W.frozen? ⟨b, 2, none⟩ = false ∧ W.frozen? ⟨b, 3, none⟩ = false ∧ W.frozen? ⟨b, 4, none⟩ = false) := by
  unfold Tk at h
  simp [World.cell?, World.frozen?, h]
theorem Tk.lt {W : World} {b : Nat} {k : Int} {s : ByteArray} {n : Int} {sv : Value} {i : Nat} (h : Tk W b k s n sv i) : b < W.heap.size := (Array.getElem?_eq_some_iff.1 h).1
theorem Tk.gr {S : Nat → Prop} {W W' : World} {b : Nat} {k : Int} {s : ByteArray} {n : Int} {sv : Value} {i : Nat} (h : Tk W b k s n sv i) (g : Gr S W W') (hs : ¬ S b) : Tk W' b k s n sv i := g.keep h hs
theorem Tk.setK {W : World} {b : Nat} {k : Int} {s : ByteArray} {n : Int} {sv : Value} {i : Nat} (h : Tk W b k s n sv i) (k' : Int) : Tk (W.setCell ⟨b, 0, none⟩ (.int .i64 k')) b k' s n sv i := heap_setCell_same W b 0 _ 27 _ h
theorem Tk.setS {W : World} {b : Nat} {k : Int} {s : ByteArray} {n : Int} {sv : Value} {i : Nat} (h : Tk W b k s n sv i) (s' : ByteArray) : Tk (W.setCell ⟨b, 1, none⟩ (.string s')) b k s' n sv i := heap_setCell_same W b 1 _ 27 _ h
theorem Tk.setN {W : World} {b : Nat} {k : Int} {s : ByteArray} {n : Int} {sv : Value} {i : Nat} (h : Tk W b k s n sv i) (n' : Int) : Tk (W.setCell ⟨b, 2, none⟩ (.int .i64 n')) b k s n' sv i := heap_setCell_same W b 2 _ 27 _ h
theorem Tk.setB {W : World} {b : Nat} {k : Int} {s : ByteArray} {n : Int} {sv : Value} {i : Nat} (h : Tk W b k s n sv i) (v' : Value) : Tk (W.setCell ⟨b, 3, none⟩ v') b k s n v' i := heap_setCell_same W b 3 _ 27 _ h
theorem Tk.setA {W : World} {b : Nat} {k : Int} {s : ByteArray} {n : Int} {sv : Value} {i : Nat} (h : Tk W b k s n sv i) (j : Nat) : Tk (W.setCell ⟨b, 4, none⟩ (.int .i64 (j : Int))) b k s n sv j := heap_setCell_same W b 4 _ 27 _ h

/-- How a token ends. -/
def EndT (W : World) (base b : Nat) (s : ByteArray) (e : Ending) (w' : World) : Except Int (Tok × Nat) → Prop
  | .ok (t, j) => ∃ a c, e = .returned (.tuple #[tkv t.k t.s t.n (.slice a t.b.length c) t.at', .int .i64 0]) ∧ w'.ownsRow base 5 1 (.slice a t.b.length c) t.b.length (t.b.map (Value.int .u8)) ∧ St W b s w' j
  | .error c => (∃ k t n i, e = .returned (.tuple #[tkv k t n nl i, .int .i64 c])) ∧ Gr (fun k => k = b) W w'

theorem ownsRow_base {W : World} {base base' : Nat} {e : TypeId} {size : Nat} {sv : Value} {n : Nat} {xs : List Value} (h : W.ownsRow base e size sv n xs) (hb : base' ≤ base) : W.ownsRow base' e size sv n xs := by
  refine ⟨h.1, ?_⟩
  rcases h.2 with h0 | ⟨g, cap, cur, rfl, hg, h2, h3⟩
  · exact .inl h0
  · exact .inr ⟨g, cap, cur, rfl, Nat.le_trans hb hg, h2, h3⟩

/-- The same five cells written once more. -/
theorem Tk.again {W : World} {b : Nat} {k : Int} {s : ByteArray} {n : Int} {sv : Value} {i : Nat} (h : Tk W b k s n sv i) (W' : World)
    (e : ((((W.setCell ⟨b, 0, none⟩ (.int .i64 k)).setCell ⟨b, 1, none⟩ (.string s)).setCell ⟨b, 2, none⟩ (.int .i64 n)).setCell ⟨b, 3, none⟩ sv).setCell ⟨b, 4, none⟩ (.int .i64 (i : Int)) = W') : Tk W' b k s n sv i ∧ Gr (fun j => j = b) W W' := by
  subst e
  exact ⟨((((h.setK k).setS s).setN n).setB sv).setA i, ((((Gr.set (S := fun j => j = b) _ _ _ rfl).trans (Gr.set (S := fun j => j = b) _ _ _ rfl)).trans (Gr.set (S := fun j => j = b) _ _ _ rfl)).trans (Gr.set (S := fun j => j = b) _ _ _ rfl)).trans (Gr.set (S := fun j => j = b) _ _ _ rfl)⟩

set_option maxRecDepth 100000 in
set_option maxHeartbeats 4000000 in
theorem token_int_ok (W : World) (base b : Nat) (s : ByteArray) (i : Nat) (h : Rd W b s i) (hs : s.size ≤ 60000) (hi : i < s.size) (hE : Er W) (hS : Sg W) (hb4 : b ≠ 3) (hb0 : b ≠ 0) (hbase : base ≤ W.heap.size) (hd : dig (pk s i) = true) (j : Nat) (v : Int) (hj : span dig s i = j) (hv : dvx s i j = v) (hq : ¬ (4611686018427387903 < v ∨ inN (pk s j) = true)) :
    Calls Tryz.prog 16 #[pt b] W fun e w' => EndT W base b s e w' (.ok (⟨1, e0, v, [], i⟩, j)) := by
  have hiI : (i : Int) ≤ 60000 := by omega
  have hbl := h.lt
  obtain ⟨c0, c1, f0, f1⟩ := h.facts
  have hcon : ∀ w, Rd w b s i → Er w → Calls Tryz.prog 27 #[pt b] w fun e w' => e = .returned (.tuple #[.int .i64 v, .int .i64 0]) ∧ St w b s w' j := fun w hw hE => by
    refine (integer_c w b s i hw (by omega) hd hE hb4).mono ?_
    intro e w' h
    rw [hj, EndI, hv, if_neg hq] at h
    exact h
  clear hq hv hj
  obtain ⟨x, hx⟩ : ∃ x, pk s i = x := ⟨_, rfl⟩
  have Hx := Lib.hid hx
  have hp := fun W h => peek_c W b s i h
  rw [hx] at hp
  rw [hx] at hd
  clear hx
  replace hi := Lib.hid hi
  replace hs := Lib.hid hs
  go_enter Tryz.func16, Tryz.ntmps16
  go_wp2_with fail
  generalize hW1 : W.alloc _ = w1
  have hT1 : Tk w1 W.heap.size 3 e0 0 nl i := hW1 ▸ heap_alloc_new W _
  have hg1 : Gr (fun _ => False) W w1 := hW1 ▸ Gr.alloc _ _ _
  have hne : W.heap.size ≠ b := by omega
  have hl4 := hE.lt
  have hn4 : 3 ≠ W.heap.size := by omega
  have hn0 : 0 ≠ W.heap.size := by omega
  have hR1 := h.gr hg1 (fun e => e)
  have hE1 := hE.gr hg1 (fun e => e)
  have hS1 := hS.gr hg1 (fun e => e)
  clear hW1 c0 c1 f0 f1 hbl hl4
  have hbs : Hid (base ≤ W.heap.size) := hbase
  have hnew : Hid (W.heap.size ≤ W.heap.size) := Nat.le_refl _
  clear hbase
  obtain ⟨tb, htb⟩ : ∃ tb, W.heap.size = tb := ⟨_, rfl⟩
  have hfin : Hid (∀ w', Gr (fun k => k = b ∨ k = tb) W w' → Gr (fun k => k = b) W w') := fun w' g => g.mono (fun j hj e => e.elim (fun e => e) (fun e => by omega))
  rw [htb] at hT1 hne hn4 hn0 hnew ⊢
  clear htb
  refine (hp _ hR1).mono ?_
  rintro e w2 ⟨rfl, hs2⟩
  have hT2 := hT1.gr hs2.2 hne
  have hE2 := hE1.gr hs2.2 (fun e => hb4 e.symm)
  have hS2 := hS1.gr hs2.2 (fun e => hb0 e.symm)
  have hgW2 : Gr (fun k => k = b ∨ k = tb) W w2 := (hg1.any _).trans (hs2.2.mono (fun _ _ e => .inl e))
  have hR2 := hs2.1
  clear hT1 hE1 hS1 hR1 hg1 hs2 hp
  have hlb := hT2.lt
  obtain ⟨⟨t0, t1, t2, t3, t4⟩, u0, u1, u2, u3, u4⟩ := hT2.facts
  go_wp2_with (first | (go_at_call 26; refine (digit_c _ _).mono ?_; rintro e w' ⟨rfl, rfl⟩) | (go_at_call 29; refine (lower_c _ _).mono ?_; rintro e w' ⟨rfl, rfl⟩) | (go_at_call 30; refine (variable_c _ _).mono ?_; rintro e w' ⟨rfl, rfl⟩))
  generalize hX : w2.setCell _ _ = X
  have hTX : Tk X tb 1 e0 0 nl i := hX ▸ hT2.setK 1
  have hgX : Gr (fun k => k = tb) w2 X := hX ▸ Gr.set _ _ _ rfl
  clear t0 t1 t2 t3 t4 u0 u1 u2 u3 u4 hlb hX
  refine (hcon X (hR2.gr hgX (fun e => hne e.symm)) (hE2.gr hgX hn4)).mono ?_
  rintro e w3 ⟨rfl, hs3⟩
  have hgA : Gr (fun k => k = b ∨ k = tb) W w3 := (hgW2.trans (hgX.mono (fun _ _ e => .inr e))).trans (hs3.2.mono (fun _ _ e => .inl e))
  have hT3 := hTX.gr hs3.2 hne
  have hlb := hT3.lt
  obtain ⟨⟨t0, t1, t2, t3, t4⟩, u0, u1, u2, u3, u4⟩ := hT3.facts
  go_wp2_with fail
  generalize hX9 : World.setCell _ _ _ = w9
  obtain ⟨hT9, hg9⟩ := (hT3.setN v).again w9 hX9
  have hg39 : Gr (fun k => k = tb) w3 w9 := (Gr.set (S := fun k => k = tb) _ _ _ rfl).trans hg9
  clear t0 t1 t2 t3 t4 u0 u1 u2 u3 u4 hlb hX9
  obtain ⟨⟨t0, t1, t2, t3, t4⟩, u0, u1, u2, u3, u4⟩ := hT9.facts
  refine bodyPost_ret (v := .tuple #[tkv 1 e0 v nl i, .int .i64 0]) (by simp [results, Tryz.results16, go_sem, t0, t1, t2, t3, t4]) rfl ?_
  have hgZ : Gr (fun k => k = b) W w9 := hfin.out w9 (hgA.trans (hg39.mono (fun _ _ e => .inr e)))
  exact ⟨none, 0, rfl, World.ownsRow_nil _ _ _ _, hs3.1.gr hg39 (fun e => hne e.symm), hgZ⟩

set_option maxRecDepth 100000 in
set_option maxHeartbeats 4000000 in
theorem token_int_no (W : World) (base b : Nat) (s : ByteArray) (i : Nat) (h : Rd W b s i) (hs : s.size ≤ 60000) (hi : i < s.size) (hE : Er W) (hS : Sg W) (hb4 : b ≠ 3) (hb0 : b ≠ 0) (hbase : base ≤ W.heap.size) (hd : dig (pk s i) = true) (j : Nat) (v : Int) (hj : span dig s i = j) (hv : dvx s i j = v) (hq : 4611686018427387903 < v ∨ inN (pk s j) = true) :
    Calls Tryz.prog 16 #[pt b] W fun e w' => EndT W base b s e w' (.error 152) := by
  have hiI : (i : Int) ≤ 60000 := by omega
  have hbl := h.lt
  obtain ⟨c0, c1, f0, f1⟩ := h.facts
  have hcon : ∀ w, Rd w b s i → Er w → Calls Tryz.prog 27 #[pt b] w fun e w' => e = .returned (.tuple #[.int .i64 0, .int .i64 152]) ∧ Gr (fun k => k = b) w w' := fun w hw hE => by
    refine (integer_c w b s i hw (by omega) hd hE hb4).mono ?_
    intro e w' h
    rw [hj, EndI, hv, if_pos hq] at h
    exact h
  clear hq hv hj
  obtain ⟨x, hx⟩ : ∃ x, pk s i = x := ⟨_, rfl⟩
  have Hx := Lib.hid hx
  have hp := fun W h => peek_c W b s i h
  rw [hx] at hp
  rw [hx] at hd
  clear hx
  replace hi := Lib.hid hi
  replace hs := Lib.hid hs
  go_enter Tryz.func16, Tryz.ntmps16
  go_wp2_with fail
  generalize hW1 : W.alloc _ = w1
  have hT1 : Tk w1 W.heap.size 3 e0 0 nl i := hW1 ▸ heap_alloc_new W _
  have hg1 : Gr (fun _ => False) W w1 := hW1 ▸ Gr.alloc _ _ _
  have hne : W.heap.size ≠ b := by omega
  have hl4 := hE.lt
  have hn4 : 3 ≠ W.heap.size := by omega
  have hn0 : 0 ≠ W.heap.size := by omega
  have hR1 := h.gr hg1 (fun e => e)
  have hE1 := hE.gr hg1 (fun e => e)
  have hS1 := hS.gr hg1 (fun e => e)
  clear hW1 c0 c1 f0 f1 hbl hl4
  have hbs : Hid (base ≤ W.heap.size) := hbase
  have hnew : Hid (W.heap.size ≤ W.heap.size) := Nat.le_refl _
  clear hbase
  obtain ⟨tb, htb⟩ : ∃ tb, W.heap.size = tb := ⟨_, rfl⟩
  have hfin : Hid (∀ w', Gr (fun k => k = b ∨ k = tb) W w' → Gr (fun k => k = b) W w') := fun w' g => g.mono (fun j hj e => e.elim (fun e => e) (fun e => by omega))
  rw [htb] at hT1 hne hn4 hn0 hnew ⊢
  clear htb
  refine (hp _ hR1).mono ?_
  rintro e w2 ⟨rfl, hs2⟩
  have hT2 := hT1.gr hs2.2 hne
  have hE2 := hE1.gr hs2.2 (fun e => hb4 e.symm)
  have hS2 := hS1.gr hs2.2 (fun e => hb0 e.symm)
  have hgW2 : Gr (fun k => k = b ∨ k = tb) W w2 := (hg1.any _).trans (hs2.2.mono (fun _ _ e => .inl e))
  have hR2 := hs2.1
  clear hT1 hE1 hS1 hR1 hg1 hs2 hp
  have hlb := hT2.lt
  obtain ⟨⟨t0, t1, t2, t3, t4⟩, u0, u1, u2, u3, u4⟩ := hT2.facts
  go_wp2_with (first | (go_at_call 26; refine (digit_c _ _).mono ?_; rintro e w' ⟨rfl, rfl⟩) | (go_at_call 29; refine (lower_c _ _).mono ?_; rintro e w' ⟨rfl, rfl⟩) | (go_at_call 30; refine (variable_c _ _).mono ?_; rintro e w' ⟨rfl, rfl⟩))
  generalize hX : w2.setCell _ _ = X
  have hTX : Tk X tb 1 e0 0 nl i := hX ▸ hT2.setK 1
  have hgX : Gr (fun k => k = tb) w2 X := hX ▸ Gr.set _ _ _ rfl
  clear t0 t1 t2 t3 t4 u0 u1 u2 u3 u4 hlb hX
  refine (hcon X (hR2.gr hgX (fun e => hne e.symm)) (hE2.gr hgX hn4)).mono ?_
  rintro e w3 ⟨rfl, hg3⟩
  have hgA : Gr (fun k => k = b ∨ k = tb) W w3 := (hgW2.trans (hgX.mono (fun _ _ e => .inr e))).trans (hg3.mono (fun _ _ e => .inl e))
  have hT3 := hTX.gr hg3 hne
  have hlb := hT3.lt
  obtain ⟨⟨t0, t1, t2, t3, t4⟩, u0, u1, u2, u3, u4⟩ := hT3.facts
  go_wp2_with fail
  generalize hX9 : World.setCell _ _ _ = w9
  obtain ⟨hT9, hg9⟩ := (hT3.setN 0).again w9 hX9
  have hg39 : Gr (fun k => k = tb) w3 w9 := (Gr.set (S := fun k => k = tb) _ _ _ rfl).trans hg9
  clear t0 t1 t2 t3 t4 u0 u1 u2 u3 u4 hlb hX9
  obtain ⟨⟨t0, t1, t2, t3, t4⟩, u0, u1, u2, u3, u4⟩ := hT9.facts
  refine bodyPost_ret (v := .tuple #[tkv 1 e0 0 nl i, .int .i64 152]) (by simp [results, Tryz.results16, go_sem, t0, t1, t2, t3, t4]) rfl ?_
  have hgZ : Gr (fun k => k = b) W w9 := hfin.out w9 (hgA.trans (hg39.mono (fun _ _ e => .inr e)))
  exact ⟨⟨_, _, _, _, rfl⟩, hgZ⟩

set_option maxRecDepth 100000 in
set_option maxHeartbeats 4000000 in
theorem token_q_ok (W : World) (base b : Nat) (s : ByteArray) (i : Nat) (h : Rd W b s i) (hs : s.size ≤ 60000) (hi : i < s.size) (hE : Er W) (hS : Sg W) (hb4 : b ≠ 3) (hb0 : b ≠ 0) (hbase : base ≤ W.heap.size) (hd : pk s i = 34) (l : List Int) (j : Nat) (hq : qtd s i = some (l, j)) :
    Calls Tryz.prog 16 #[pt b] W fun e w' => EndT W base b s e w' (.ok (⟨4, e0, 0, l, i⟩, j)) := by
  have hiI : (i : Int) ≤ 60000 := by omega
  have hbl := h.lt
  obtain ⟨c0, c1, f0, f1⟩ := h.facts
  have hcon : ∀ w, Rd w b s i → Calls Tryz.prog 28 #[pt b] w fun e w' => EndQ w b s e w' (some (l, j)) := fun w hw => by
    have := quoted_c w b s i hw hs hd
    rw [hq] at this
    exact this
  clear hq
  obtain ⟨x, hx⟩ : ∃ x, pk s i = x := ⟨_, rfl⟩
  have Hx := Lib.hid hx
  have hp := fun W h => peek_c W b s i h
  rw [hx] at hp
  rw [hx] at hd
  clear hx
  replace hi := Lib.hid hi
  replace hs := Lib.hid hs
  go_enter Tryz.func16, Tryz.ntmps16
  go_wp2_with fail
  generalize hW1 : W.alloc _ = w1
  have hT1 : Tk w1 W.heap.size 3 e0 0 nl i := hW1 ▸ heap_alloc_new W _
  have hg1 : Gr (fun _ => False) W w1 := hW1 ▸ Gr.alloc _ _ _
  have hne : W.heap.size ≠ b := by omega
  have hl4 := hE.lt
  have hn4 : 3 ≠ W.heap.size := by omega
  have hn0 : 0 ≠ W.heap.size := by omega
  have hR1 := h.gr hg1 (fun e => e)
  have hE1 := hE.gr hg1 (fun e => e)
  have hS1 := hS.gr hg1 (fun e => e)
  clear hW1 c0 c1 f0 f1 hbl hl4
  have hbs : Hid (base ≤ W.heap.size) := hbase
  have hnew : Hid (W.heap.size ≤ W.heap.size) := Nat.le_refl _
  clear hbase
  obtain ⟨tb, htb⟩ : ∃ tb, W.heap.size = tb := ⟨_, rfl⟩
  have hfin : Hid (∀ w', Gr (fun k => k = b ∨ k = tb) W w' → Gr (fun k => k = b) W w') := fun w' g => g.mono (fun j hj e => e.elim (fun e => e) (fun e => by omega))
  rw [htb] at hT1 hne hn4 hn0 hnew ⊢
  clear htb
  refine (hp _ hR1).mono ?_
  rintro e w2 ⟨rfl, hs2⟩
  have hT2 := hT1.gr hs2.2 hne
  have hE2 := hE1.gr hs2.2 (fun e => hb4 e.symm)
  have hS2 := hS1.gr hs2.2 (fun e => hb0 e.symm)
  have hgW2 : Gr (fun k => k = b ∨ k = tb) W w2 := (hg1.any _).trans (hs2.2.mono (fun _ _ e => .inl e))
  have hR2 := hs2.1
  clear hT1 hE1 hS1 hR1 hg1 hs2 hp
  have hlb := hT2.lt
  obtain ⟨⟨t0, t1, t2, t3, t4⟩, u0, u1, u2, u3, u4⟩ := hT2.facts
  subst hd
  go_wp2_with (first | (go_at_call 26; refine (digit_c _ _).mono ?_; rintro e w' ⟨rfl, rfl⟩) | (go_at_call 29; refine (lower_c _ _).mono ?_; rintro e w' ⟨rfl, rfl⟩) | (go_at_call 30; refine (variable_c _ _).mono ?_; rintro e w' ⟨rfl, rfl⟩))
  generalize hX : w2.setCell _ _ = X
  have hTX : Tk X tb 4 e0 0 nl i := hX ▸ hT2.setK 4
  have hgX : Gr (fun k => k = tb) w2 X := hX ▸ Gr.set _ _ _ rfl
  clear t0 t1 t2 t3 t4 u0 u1 u2 u3 u4 hlb hX
  refine (hcon X (hR2.gr hgX (fun e => hne e.symm))).mono ?_
  rintro e w3 ⟨sv, rfl, hrow, hs3⟩
  obtain ⟨qa, qc, rfl⟩ := ownsRow_sv hrow
  have hgA : Gr (fun k => k = b ∨ k = tb) W w3 := (hgW2.trans (hgX.mono (fun _ _ e => .inr e))).trans (hs3.2.mono (fun _ _ e => .inl e))
  have hT3 := hTX.gr hs3.2 hne
  have hlb := hT3.lt
  obtain ⟨⟨t0, t1, t2, t3, t4⟩, u0, u1, u2, u3, u4⟩ := hT3.facts
  go_wp2_with fail
  generalize hX9 : World.setCell _ _ _ = w9
  obtain ⟨hT9, hg9⟩ := (hT3.setB (.slice qa l.length qc)).again w9 hX9
  have hg39 : Gr (fun k => k = tb) w3 w9 := (Gr.set (S := fun k => k = tb) _ _ _ rfl).trans hg9
  clear t0 t1 t2 t3 t4 u0 u1 u2 u3 u4 hlb hX9
  obtain ⟨⟨t0, t1, t2, t3, t4⟩, u0, u1, u2, u3, u4⟩ := hT9.facts
  refine bodyPost_ret (v := .tuple #[tkv 4 e0 0 (.slice qa l.length qc) i, .int .i64 0]) (by simp [results, Tryz.results16, go_sem, t0, t1, t2, t3, t4]) rfl ?_
  have hgZ : Gr (fun k => k = b) W w9 := hfin.out w9 (hgA.trans (hg39.mono (fun _ _ e => .inr e)))
  have hsz : W.heap.size ≤ X.heap.size := Nat.le_trans hgW2.size hgX.size
  refine ⟨qa, qc, rfl, ?_, hs3.1.gr hg39 (fun e => hne e.symm), hgZ⟩
  exact ownsRow_base (ownsRow_gr hrow hg39 (fun k h1 h2 => by have := hTX.lt; omega)) (Nat.le_trans hbs.out hsz)

set_option maxRecDepth 100000 in
set_option maxHeartbeats 4000000 in
theorem token_q_no (W : World) (base b : Nat) (s : ByteArray) (i : Nat) (h : Rd W b s i) (hs : s.size ≤ 60000) (hi : i < s.size) (hE : Er W) (hS : Sg W) (hb4 : b ≠ 3) (hb0 : b ≠ 0) (hbase : base ≤ W.heap.size) (hd : pk s i = 34) (hq : qtd s i = none) :
    Calls Tryz.prog 16 #[pt b] W fun e w' => EndT W base b s e w' (.error 154) := by
  have hiI : (i : Int) ≤ 60000 := by omega
  have hbl := h.lt
  obtain ⟨c0, c1, f0, f1⟩ := h.facts
  have hcon : ∀ w, Rd w b s i → Calls Tryz.prog 28 #[pt b] w fun e w' => EndQ w b s e w' (none) := fun w hw => by
    have := quoted_c w b s i hw hs hd
    rw [hq] at this
    exact this
  clear hq
  obtain ⟨x, hx⟩ : ∃ x, pk s i = x := ⟨_, rfl⟩
  have Hx := Lib.hid hx
  have hp := fun W h => peek_c W b s i h
  rw [hx] at hp
  rw [hx] at hd
  clear hx
  replace hi := Lib.hid hi
  replace hs := Lib.hid hs
  go_enter Tryz.func16, Tryz.ntmps16
  go_wp2_with fail
  generalize hW1 : W.alloc _ = w1
  have hT1 : Tk w1 W.heap.size 3 e0 0 nl i := hW1 ▸ heap_alloc_new W _
  have hg1 : Gr (fun _ => False) W w1 := hW1 ▸ Gr.alloc _ _ _
  have hne : W.heap.size ≠ b := by omega
  have hl4 := hE.lt
  have hn4 : 3 ≠ W.heap.size := by omega
  have hn0 : 0 ≠ W.heap.size := by omega
  have hR1 := h.gr hg1 (fun e => e)
  have hE1 := hE.gr hg1 (fun e => e)
  have hS1 := hS.gr hg1 (fun e => e)
  clear hW1 c0 c1 f0 f1 hbl hl4
  have hbs : Hid (base ≤ W.heap.size) := hbase
  have hnew : Hid (W.heap.size ≤ W.heap.size) := Nat.le_refl _
  clear hbase
  obtain ⟨tb, htb⟩ : ∃ tb, W.heap.size = tb := ⟨_, rfl⟩
  have hfin : Hid (∀ w', Gr (fun k => k = b ∨ k = tb) W w' → Gr (fun k => k = b) W w') := fun w' g => g.mono (fun j hj e => e.elim (fun e => e) (fun e => by omega))
  rw [htb] at hT1 hne hn4 hn0 hnew ⊢
  clear htb
  refine (hp _ hR1).mono ?_
  rintro e w2 ⟨rfl, hs2⟩
  have hT2 := hT1.gr hs2.2 hne
  have hE2 := hE1.gr hs2.2 (fun e => hb4 e.symm)
  have hS2 := hS1.gr hs2.2 (fun e => hb0 e.symm)
  have hgW2 : Gr (fun k => k = b ∨ k = tb) W w2 := (hg1.any _).trans (hs2.2.mono (fun _ _ e => .inl e))
  have hR2 := hs2.1
  clear hT1 hE1 hS1 hR1 hg1 hs2 hp
  have hlb := hT2.lt
  obtain ⟨⟨t0, t1, t2, t3, t4⟩, u0, u1, u2, u3, u4⟩ := hT2.facts
  subst hd
  go_wp2_with (first | (go_at_call 26; refine (digit_c _ _).mono ?_; rintro e w' ⟨rfl, rfl⟩) | (go_at_call 29; refine (lower_c _ _).mono ?_; rintro e w' ⟨rfl, rfl⟩) | (go_at_call 30; refine (variable_c _ _).mono ?_; rintro e w' ⟨rfl, rfl⟩))
  generalize hX : w2.setCell _ _ = X
  have hTX : Tk X tb 4 e0 0 nl i := hX ▸ hT2.setK 4
  have hgX : Gr (fun k => k = tb) w2 X := hX ▸ Gr.set _ _ _ rfl
  clear t0 t1 t2 t3 t4 u0 u1 u2 u3 u4 hlb hX
  refine (hcon X (hR2.gr hgX (fun e => hne e.symm))).mono ?_
  rintro e w3 ⟨rfl, hg3⟩
  have hgA : Gr (fun k => k = b ∨ k = tb) W w3 := (hgW2.trans (hgX.mono (fun _ _ e => .inr e))).trans (hg3.mono (fun _ _ e => .inl e))
  have hT3 := hTX.gr hg3 hne
  have hlb := hT3.lt
  obtain ⟨⟨t0, t1, t2, t3, t4⟩, u0, u1, u2, u3, u4⟩ := hT3.facts
  go_wp2_with fail
  generalize hX9 : World.setCell _ _ _ = w9
  obtain ⟨hT9, hg9⟩ := (hT3.setB nl).again w9 hX9
  have hg39 : Gr (fun k => k = tb) w3 w9 := (Gr.set (S := fun k => k = tb) _ _ _ rfl).trans hg9
  clear t0 t1 t2 t3 t4 u0 u1 u2 u3 u4 hlb hX9
  obtain ⟨⟨t0, t1, t2, t3, t4⟩, u0, u1, u2, u3, u4⟩ := hT9.facts
  refine bodyPost_ret (v := .tuple #[tkv 4 e0 0 nl i, .int .i64 154]) (by simp [results, Tryz.results16, go_sem, t0, t1, t2, t3, t4]) rfl ?_
  have hgZ : Gr (fun k => k = b) W w9 := hfin.out w9 (hgA.trans (hg39.mono (fun _ _ e => .inr e)))
  exact ⟨⟨_, _, _, _, rfl⟩, hgZ⟩

set_option maxRecDepth 100000 in
set_option maxHeartbeats 4000000 in
theorem token_n_lw (W : World) (base b : Nat) (s : ByteArray) (i : Nat) (h : Rd W b s i) (hs : s.size ≤ 60000) (hi : i < s.size) (hE : Er W) (hS : Sg W) (hb4 : b ≠ 3) (hb0 : b ≠ 0) (hbase : base ≤ W.heap.size) (h1 : dig (pk s i) = false) (h2 : (pk s i == 34) = false) (h3 : low (pk s i) = true) (j : Nat) (hj : span inN s i = j) (hq : ¬ 32 < j - i) (hw : wrd (s.extract i j) = true) :
    Calls Tryz.prog 16 #[pt b] W fun e w' => EndT W base b s e w' (.ok (⟨6, s.extract i j, 0, [], i⟩, j)) := by
  have hiI : (i : Int) ≤ 60000 := by omega
  have hbl := h.lt
  obtain ⟨c0, c1, f0, f1⟩ := h.facts
  have hin : inN (pk s i) = true := by simp [inN, h3]
  have hcon : ∀ w, Rd w b s i → Calls Tryz.prog 31 #[pt b] w fun e w' => e = .returned (.tuple #[.string (s.extract i j), .int .i64 0]) ∧ St w b s w' j := fun w hw => by
    have := name_c w b s i hw (by omega) hin
    rw [hj] at this
    refine this.mono ?_
    intro e w' h
    rw [EndN, if_neg hq] at h
    exact h
  clear hin hj
  clear hq
  have hwc := fun w => word_c (s.extract i j) w
  rw [hw] at hwc
  clear hw
  obtain ⟨nm, hnm⟩ : ∃ nm, s.extract i j = nm := ⟨_, rfl⟩
  rw [hnm] at hwc hcon ⊢
  clear hnm
  obtain ⟨x, hx⟩ : ∃ x, pk s i = x := ⟨_, rfl⟩
  have Hx := Lib.hid hx
  have hp := fun W h => peek_c W b s i h
  rw [hx] at hp
  rw [hx] at h1 h2 h3
  clear hx
  replace hi := Lib.hid hi
  replace hs := Lib.hid hs
  go_enter Tryz.func16, Tryz.ntmps16
  go_wp2_with fail
  generalize hW1 : W.alloc _ = w1
  have hT1 : Tk w1 W.heap.size 3 e0 0 nl i := hW1 ▸ heap_alloc_new W _
  have hg1 : Gr (fun _ => False) W w1 := hW1 ▸ Gr.alloc _ _ _
  have hne : W.heap.size ≠ b := by omega
  have hl4 := hE.lt
  have hn4 : 3 ≠ W.heap.size := by omega
  have hn0 : 0 ≠ W.heap.size := by omega
  have hR1 := h.gr hg1 (fun e => e)
  have hE1 := hE.gr hg1 (fun e => e)
  have hS1 := hS.gr hg1 (fun e => e)
  clear hW1 c0 c1 f0 f1 hbl hl4
  have hbs : Hid (base ≤ W.heap.size) := hbase
  have hnew : Hid (W.heap.size ≤ W.heap.size) := Nat.le_refl _
  clear hbase
  obtain ⟨tb, htb⟩ : ∃ tb, W.heap.size = tb := ⟨_, rfl⟩
  have hfin : Hid (∀ w', Gr (fun k => k = b ∨ k = tb) W w' → Gr (fun k => k = b) W w') := fun w' g => g.mono (fun j hj e => e.elim (fun e => e) (fun e => by omega))
  rw [htb] at hT1 hne hn4 hn0 hnew ⊢
  clear htb
  refine (hp _ hR1).mono ?_
  rintro e w2 ⟨rfl, hs2⟩
  have hT2 := hT1.gr hs2.2 hne
  have hE2 := hE1.gr hs2.2 (fun e => hb4 e.symm)
  have hS2 := hS1.gr hs2.2 (fun e => hb0 e.symm)
  have hgW2 : Gr (fun k => k = b ∨ k = tb) W w2 := (hg1.any _).trans (hs2.2.mono (fun _ _ e => .inl e))
  have hR2 := hs2.1
  clear hT1 hE1 hS1 hR1 hg1 hs2 hp
  have hlb := hT2.lt
  obtain ⟨⟨t0, t1, t2, t3, t4⟩, u0, u1, u2, u3, u4⟩ := hT2.facts
  go_wp2_with (first | (go_at_call 26; refine (digit_c _ _).mono ?_; rintro e w' ⟨rfl, rfl⟩) | (go_at_call 29; refine (lower_c _ _).mono ?_; rintro e w' ⟨rfl, rfl⟩) | (go_at_call 30; refine (variable_c _ _).mono ?_; rintro e w' ⟨rfl, rfl⟩))
  generalize hX : w2.setCell _ _ = X
  have hTX : Tk X tb 2 e0 0 nl i := hX ▸ hT2.setK 2
  have hgX : Gr (fun k => k = tb) w2 X := hX ▸ Gr.set _ _ _ rfl
  clear t0 t1 t2 t3 t4 u0 u1 u2 u3 u4 hlb hX
  refine (hcon X (hR2.gr hgX (fun e => hne e.symm))).mono ?_
  rintro e w3 ⟨rfl, hs3⟩
  have hgA : Gr (fun k => k = b ∨ k = tb) W w3 := (hgW2.trans (hgX.mono (fun _ _ e => .inr e))).trans (hs3.2.mono (fun _ _ e => .inl e))
  have hT3 := hTX.gr hs3.2 hne
  have hlb := hT3.lt
  obtain ⟨⟨t0, t1, t2, t3, t4⟩, u0, u1, u2, u3, u4⟩ := hT3.facts
  go_wp2_with fail
  refine (hwc _).mono ?_
  rintro e w4 ⟨rfl, rfl⟩
  go_wp2_with fail
  generalize hX9 : World.setCell _ _ _ = w9
  obtain ⟨hT9, hg9⟩ := ((hT3.setS nm).setK 6).again w9 hX9
  have hg39 : Gr (fun k => k = tb) w3 w9 := ((Gr.set (S := fun k => k = tb) _ _ _ rfl).trans (Gr.set (S := fun k => k = tb) _ _ _ rfl)).trans hg9
  clear t0 t1 t2 t3 t4 u0 u1 u2 u3 u4 hlb hX9
  obtain ⟨⟨t0, t1, t2, t3, t4⟩, u0, u1, u2, u3, u4⟩ := hT9.facts
  refine bodyPost_ret (v := .tuple #[tkv 6 nm 0 nl i, .int .i64 0]) (by simp [results, Tryz.results16, go_sem, t0, t1, t2, t3, t4]) rfl ?_
  have hgZ : Gr (fun k => k = b) W w9 := hfin.out w9 (hgA.trans (hg39.mono (fun _ _ e => .inr e)))
  exact ⟨none, 0, rfl, World.ownsRow_nil _ _ _ _, hs3.1.gr hg39 (fun e => hne e.symm), hgZ⟩

set_option maxRecDepth 100000 in
set_option maxHeartbeats 4000000 in
theorem token_n_lo (W : World) (base b : Nat) (s : ByteArray) (i : Nat) (h : Rd W b s i) (hs : s.size ≤ 60000) (hi : i < s.size) (hE : Er W) (hS : Sg W) (hb4 : b ≠ 3) (hb0 : b ≠ 0) (hbase : base ≤ W.heap.size) (h1 : dig (pk s i) = false) (h2 : (pk s i == 34) = false) (h3 : low (pk s i) = true) (j : Nat) (hj : span inN s i = j) (hq : ¬ 32 < j - i) (hw : wrd (s.extract i j) = false) :
    Calls Tryz.prog 16 #[pt b] W fun e w' => EndT W base b s e w' (.ok (⟨2, s.extract i j, 0, [], i⟩, j)) := by
  have hiI : (i : Int) ≤ 60000 := by omega
  have hbl := h.lt
  obtain ⟨c0, c1, f0, f1⟩ := h.facts
  have hin : inN (pk s i) = true := by simp [inN, h3]
  have hcon : ∀ w, Rd w b s i → Calls Tryz.prog 31 #[pt b] w fun e w' => e = .returned (.tuple #[.string (s.extract i j), .int .i64 0]) ∧ St w b s w' j := fun w hw => by
    have := name_c w b s i hw (by omega) hin
    rw [hj] at this
    refine this.mono ?_
    intro e w' h
    rw [EndN, if_neg hq] at h
    exact h
  clear hin hj
  clear hq
  have hwc := fun w => word_c (s.extract i j) w
  rw [hw] at hwc
  clear hw
  obtain ⟨nm, hnm⟩ : ∃ nm, s.extract i j = nm := ⟨_, rfl⟩
  rw [hnm] at hwc hcon ⊢
  clear hnm
  obtain ⟨x, hx⟩ : ∃ x, pk s i = x := ⟨_, rfl⟩
  have Hx := Lib.hid hx
  have hp := fun W h => peek_c W b s i h
  rw [hx] at hp
  rw [hx] at h1 h2 h3
  clear hx
  replace hi := Lib.hid hi
  replace hs := Lib.hid hs
  go_enter Tryz.func16, Tryz.ntmps16
  go_wp2_with fail
  generalize hW1 : W.alloc _ = w1
  have hT1 : Tk w1 W.heap.size 3 e0 0 nl i := hW1 ▸ heap_alloc_new W _
  have hg1 : Gr (fun _ => False) W w1 := hW1 ▸ Gr.alloc _ _ _
  have hne : W.heap.size ≠ b := by omega
  have hl4 := hE.lt
  have hn4 : 3 ≠ W.heap.size := by omega
  have hn0 : 0 ≠ W.heap.size := by omega
  have hR1 := h.gr hg1 (fun e => e)
  have hE1 := hE.gr hg1 (fun e => e)
  have hS1 := hS.gr hg1 (fun e => e)
  clear hW1 c0 c1 f0 f1 hbl hl4
  have hbs : Hid (base ≤ W.heap.size) := hbase
  have hnew : Hid (W.heap.size ≤ W.heap.size) := Nat.le_refl _
  clear hbase
  obtain ⟨tb, htb⟩ : ∃ tb, W.heap.size = tb := ⟨_, rfl⟩
  have hfin : Hid (∀ w', Gr (fun k => k = b ∨ k = tb) W w' → Gr (fun k => k = b) W w') := fun w' g => g.mono (fun j hj e => e.elim (fun e => e) (fun e => by omega))
  rw [htb] at hT1 hne hn4 hn0 hnew ⊢
  clear htb
  refine (hp _ hR1).mono ?_
  rintro e w2 ⟨rfl, hs2⟩
  have hT2 := hT1.gr hs2.2 hne
  have hE2 := hE1.gr hs2.2 (fun e => hb4 e.symm)
  have hS2 := hS1.gr hs2.2 (fun e => hb0 e.symm)
  have hgW2 : Gr (fun k => k = b ∨ k = tb) W w2 := (hg1.any _).trans (hs2.2.mono (fun _ _ e => .inl e))
  have hR2 := hs2.1
  clear hT1 hE1 hS1 hR1 hg1 hs2 hp
  have hlb := hT2.lt
  obtain ⟨⟨t0, t1, t2, t3, t4⟩, u0, u1, u2, u3, u4⟩ := hT2.facts
  go_wp2_with (first | (go_at_call 26; refine (digit_c _ _).mono ?_; rintro e w' ⟨rfl, rfl⟩) | (go_at_call 29; refine (lower_c _ _).mono ?_; rintro e w' ⟨rfl, rfl⟩) | (go_at_call 30; refine (variable_c _ _).mono ?_; rintro e w' ⟨rfl, rfl⟩))
  generalize hX : w2.setCell _ _ = X
  have hTX : Tk X tb 2 e0 0 nl i := hX ▸ hT2.setK 2
  have hgX : Gr (fun k => k = tb) w2 X := hX ▸ Gr.set _ _ _ rfl
  clear t0 t1 t2 t3 t4 u0 u1 u2 u3 u4 hlb hX
  refine (hcon X (hR2.gr hgX (fun e => hne e.symm))).mono ?_
  rintro e w3 ⟨rfl, hs3⟩
  have hgA : Gr (fun k => k = b ∨ k = tb) W w3 := (hgW2.trans (hgX.mono (fun _ _ e => .inr e))).trans (hs3.2.mono (fun _ _ e => .inl e))
  have hT3 := hTX.gr hs3.2 hne
  have hlb := hT3.lt
  obtain ⟨⟨t0, t1, t2, t3, t4⟩, u0, u1, u2, u3, u4⟩ := hT3.facts
  go_wp2_with fail
  refine (hwc _).mono ?_
  rintro e w4 ⟨rfl, rfl⟩
  go_wp2_with fail
  generalize hX9 : World.setCell _ _ _ = w9
  obtain ⟨hT9, hg9⟩ := ((hT3.setS nm)).again w9 hX9
  have hg39 : Gr (fun k => k = tb) w3 w9 := (Gr.set (S := fun k => k = tb) _ _ _ rfl).trans hg9
  clear t0 t1 t2 t3 t4 u0 u1 u2 u3 u4 hlb hX9
  obtain ⟨⟨t0, t1, t2, t3, t4⟩, u0, u1, u2, u3, u4⟩ := hT9.facts
  refine bodyPost_ret (v := .tuple #[tkv 2 nm 0 nl i, .int .i64 0]) (by simp [results, Tryz.results16, go_sem, t0, t1, t2, t3, t4]) rfl ?_
  have hgZ : Gr (fun k => k = b) W w9 := hfin.out w9 (hgA.trans (hg39.mono (fun _ _ e => .inr e)))
  exact ⟨none, 0, rfl, World.ownsRow_nil _ _ _ _, hs3.1.gr hg39 (fun e => hne e.symm), hgZ⟩

set_option maxRecDepth 100000 in
set_option maxHeartbeats 4000000 in
theorem token_n_le (W : World) (base b : Nat) (s : ByteArray) (i : Nat) (h : Rd W b s i) (hs : s.size ≤ 60000) (hi : i < s.size) (hE : Er W) (hS : Sg W) (hb4 : b ≠ 3) (hb0 : b ≠ 0) (hbase : base ≤ W.heap.size) (h1 : dig (pk s i) = false) (h2 : (pk s i == 34) = false) (h3 : low (pk s i) = true) (j : Nat) (hj : span inN s i = j) (hq : 32 < j - i) :
    Calls Tryz.prog 16 #[pt b] W fun e w' => EndT W base b s e w' (.error 153) := by
  have hiI : (i : Int) ≤ 60000 := by omega
  have hbl := h.lt
  obtain ⟨c0, c1, f0, f1⟩ := h.facts
  have hin : inN (pk s i) = true := by simp [inN, h3]
  have hcon : ∀ w, Rd w b s i → Calls Tryz.prog 31 #[pt b] w fun e w' => e = .returned (.tuple #[.string ⟨#[]⟩, .int .i64 153]) ∧ Gr (fun k => k = b) w w' := fun w hw => by
    have := name_c w b s i hw (by omega) hin
    rw [hj] at this
    refine this.mono ?_
    intro e w' h
    rw [EndN, if_pos hq] at h
    exact h
  clear hin hj
  clear hq
  have hwc := fun w => word_c e0 w
  rw [show wrd e0 = false by decide +kernel] at hwc
  obtain ⟨x, hx⟩ : ∃ x, pk s i = x := ⟨_, rfl⟩
  have Hx := Lib.hid hx
  have hp := fun W h => peek_c W b s i h
  rw [hx] at hp
  rw [hx] at h1 h2 h3
  clear hx
  replace hi := Lib.hid hi
  replace hs := Lib.hid hs
  go_enter Tryz.func16, Tryz.ntmps16
  go_wp2_with fail
  generalize hW1 : W.alloc _ = w1
  have hT1 : Tk w1 W.heap.size 3 e0 0 nl i := hW1 ▸ heap_alloc_new W _
  have hg1 : Gr (fun _ => False) W w1 := hW1 ▸ Gr.alloc _ _ _
  have hne : W.heap.size ≠ b := by omega
  have hl4 := hE.lt
  have hn4 : 3 ≠ W.heap.size := by omega
  have hn0 : 0 ≠ W.heap.size := by omega
  have hR1 := h.gr hg1 (fun e => e)
  have hE1 := hE.gr hg1 (fun e => e)
  have hS1 := hS.gr hg1 (fun e => e)
  clear hW1 c0 c1 f0 f1 hbl hl4
  have hbs : Hid (base ≤ W.heap.size) := hbase
  have hnew : Hid (W.heap.size ≤ W.heap.size) := Nat.le_refl _
  clear hbase
  obtain ⟨tb, htb⟩ : ∃ tb, W.heap.size = tb := ⟨_, rfl⟩
  have hfin : Hid (∀ w', Gr (fun k => k = b ∨ k = tb) W w' → Gr (fun k => k = b) W w') := fun w' g => g.mono (fun j hj e => e.elim (fun e => e) (fun e => by omega))
  rw [htb] at hT1 hne hn4 hn0 hnew ⊢
  clear htb
  refine (hp _ hR1).mono ?_
  rintro e w2 ⟨rfl, hs2⟩
  have hT2 := hT1.gr hs2.2 hne
  have hE2 := hE1.gr hs2.2 (fun e => hb4 e.symm)
  have hS2 := hS1.gr hs2.2 (fun e => hb0 e.symm)
  have hgW2 : Gr (fun k => k = b ∨ k = tb) W w2 := (hg1.any _).trans (hs2.2.mono (fun _ _ e => .inl e))
  have hR2 := hs2.1
  clear hT1 hE1 hS1 hR1 hg1 hs2 hp
  have hlb := hT2.lt
  obtain ⟨⟨t0, t1, t2, t3, t4⟩, u0, u1, u2, u3, u4⟩ := hT2.facts
  go_wp2_with (first | (go_at_call 26; refine (digit_c _ _).mono ?_; rintro e w' ⟨rfl, rfl⟩) | (go_at_call 29; refine (lower_c _ _).mono ?_; rintro e w' ⟨rfl, rfl⟩) | (go_at_call 30; refine (variable_c _ _).mono ?_; rintro e w' ⟨rfl, rfl⟩))
  generalize hX : w2.setCell _ _ = X
  have hTX : Tk X tb 2 e0 0 nl i := hX ▸ hT2.setK 2
  have hgX : Gr (fun k => k = tb) w2 X := hX ▸ Gr.set _ _ _ rfl
  clear t0 t1 t2 t3 t4 u0 u1 u2 u3 u4 hlb hX
  refine (hcon X (hR2.gr hgX (fun e => hne e.symm))).mono ?_
  rintro e w3 ⟨rfl, hg3⟩
  have hgA : Gr (fun k => k = b ∨ k = tb) W w3 := (hgW2.trans (hgX.mono (fun _ _ e => .inr e))).trans (hg3.mono (fun _ _ e => .inl e))
  have hT3 := hTX.gr hg3 hne
  have hlb := hT3.lt
  obtain ⟨⟨t0, t1, t2, t3, t4⟩, u0, u1, u2, u3, u4⟩ := hT3.facts
  go_wp2_with fail
  refine (hwc _).mono ?_
  rintro e w4 ⟨rfl, rfl⟩
  go_wp2_with fail
  generalize hX9 : World.setCell _ _ _ = w9
  obtain ⟨hT9, hg9⟩ := (hT3.setS e0).again w9 hX9
  have hg39 : Gr (fun k => k = tb) w3 w9 := (Gr.set (S := fun k => k = tb) _ _ _ rfl).trans hg9
  clear t0 t1 t2 t3 t4 u0 u1 u2 u3 u4 hlb hX9
  obtain ⟨⟨t0, t1, t2, t3, t4⟩, u0, u1, u2, u3, u4⟩ := hT9.facts
  refine bodyPost_ret (v := .tuple #[tkv 2 e0 0 nl i, .int .i64 153]) (by simp [results, Tryz.results16, go_sem, t0, t1, t2, t3, t4]) rfl ?_
  have hgZ : Gr (fun k => k = b) W w9 := hfin.out w9 (hgA.trans (hg39.mono (fun _ _ e => .inr e)))
  exact ⟨⟨_, _, _, _, rfl⟩, hgZ⟩

set_option maxRecDepth 100000 in
set_option maxHeartbeats 4000000 in
theorem token_n_vw (W : World) (base b : Nat) (s : ByteArray) (i : Nat) (h : Rd W b s i) (hs : s.size ≤ 60000) (hi : i < s.size) (hE : Er W) (hS : Sg W) (hb4 : b ≠ 3) (hb0 : b ≠ 0) (hbase : base ≤ W.heap.size) (h1 : dig (pk s i) = false) (h2 : (pk s i == 34) = false) (h3 : low (pk s i) = false) (h4 : vab (pk s i) = true) (j : Nat) (hj : span inN s i = j) (hq : ¬ 32 < j - i) (hw : wrd (s.extract i j) = true) :
    Calls Tryz.prog 16 #[pt b] W fun e w' => EndT W base b s e w' (.ok (⟨6, s.extract i j, 0, [], i⟩, j)) := by
  have hiI : (i : Int) ≤ 60000 := by omega
  have hbl := h.lt
  obtain ⟨c0, c1, f0, f1⟩ := h.facts
  have hin : inN (pk s i) = true := by simp [inN, h4]
  have hcon : ∀ w, Rd w b s i → Calls Tryz.prog 31 #[pt b] w fun e w' => e = .returned (.tuple #[.string (s.extract i j), .int .i64 0]) ∧ St w b s w' j := fun w hw => by
    have := name_c w b s i hw (by omega) hin
    rw [hj] at this
    refine this.mono ?_
    intro e w' h
    rw [EndN, if_neg hq] at h
    exact h
  clear hin hj
  clear hq
  have hwc := fun w => word_c (s.extract i j) w
  rw [hw] at hwc
  clear hw
  obtain ⟨nm, hnm⟩ : ∃ nm, s.extract i j = nm := ⟨_, rfl⟩
  rw [hnm] at hwc hcon ⊢
  clear hnm
  obtain ⟨x, hx⟩ : ∃ x, pk s i = x := ⟨_, rfl⟩
  have Hx := Lib.hid hx
  have hp := fun W h => peek_c W b s i h
  rw [hx] at hp
  rw [hx] at h1 h2 h3 h4
  clear hx
  replace hi := Lib.hid hi
  replace hs := Lib.hid hs
  go_enter Tryz.func16, Tryz.ntmps16
  go_wp2_with fail
  generalize hW1 : W.alloc _ = w1
  have hT1 : Tk w1 W.heap.size 3 e0 0 nl i := hW1 ▸ heap_alloc_new W _
  have hg1 : Gr (fun _ => False) W w1 := hW1 ▸ Gr.alloc _ _ _
  have hne : W.heap.size ≠ b := by omega
  have hl4 := hE.lt
  have hn4 : 3 ≠ W.heap.size := by omega
  have hn0 : 0 ≠ W.heap.size := by omega
  have hR1 := h.gr hg1 (fun e => e)
  have hE1 := hE.gr hg1 (fun e => e)
  have hS1 := hS.gr hg1 (fun e => e)
  clear hW1 c0 c1 f0 f1 hbl hl4
  have hbs : Hid (base ≤ W.heap.size) := hbase
  have hnew : Hid (W.heap.size ≤ W.heap.size) := Nat.le_refl _
  clear hbase
  obtain ⟨tb, htb⟩ : ∃ tb, W.heap.size = tb := ⟨_, rfl⟩
  have hfin : Hid (∀ w', Gr (fun k => k = b ∨ k = tb) W w' → Gr (fun k => k = b) W w') := fun w' g => g.mono (fun j hj e => e.elim (fun e => e) (fun e => by omega))
  rw [htb] at hT1 hne hn4 hn0 hnew ⊢
  clear htb
  refine (hp _ hR1).mono ?_
  rintro e w2 ⟨rfl, hs2⟩
  have hT2 := hT1.gr hs2.2 hne
  have hE2 := hE1.gr hs2.2 (fun e => hb4 e.symm)
  have hS2 := hS1.gr hs2.2 (fun e => hb0 e.symm)
  have hgW2 : Gr (fun k => k = b ∨ k = tb) W w2 := (hg1.any _).trans (hs2.2.mono (fun _ _ e => .inl e))
  have hR2 := hs2.1
  clear hT1 hE1 hS1 hR1 hg1 hs2 hp
  have hlb := hT2.lt
  obtain ⟨⟨t0, t1, t2, t3, t4⟩, u0, u1, u2, u3, u4⟩ := hT2.facts
  go_wp2_with (first | (go_at_call 26; refine (digit_c _ _).mono ?_; rintro e w' ⟨rfl, rfl⟩) | (go_at_call 29; refine (lower_c _ _).mono ?_; rintro e w' ⟨rfl, rfl⟩) | (go_at_call 30; refine (variable_c _ _).mono ?_; rintro e w' ⟨rfl, rfl⟩))
  clear t0 t1 t2 t3 t4 u0 u1 u2 u3 u4 hlb
  have hTX : Tk w2 tb 3 e0 0 nl i := hT2
  have hgX : Gr (fun k => k = tb) w2 w2 := Gr.refl _ _
  obtain ⟨X, hX⟩ : ∃ X, w2 = X := ⟨_, rfl⟩
  have hgX : Gr (fun k => k = tb) w2 X := hX ▸ Gr.refl _ _
  rw [hX] at hTX ⊢
  clear hX
  refine (hcon X (hR2.gr hgX (fun e => hne e.symm))).mono ?_
  rintro e w3 ⟨rfl, hs3⟩
  have hgA : Gr (fun k => k = b ∨ k = tb) W w3 := (hgW2.trans (hgX.mono (fun _ _ e => .inr e))).trans (hs3.2.mono (fun _ _ e => .inl e))
  have hT3 := hTX.gr hs3.2 hne
  have hlb := hT3.lt
  obtain ⟨⟨t0, t1, t2, t3, t4⟩, u0, u1, u2, u3, u4⟩ := hT3.facts
  go_wp2_with fail
  refine (hwc _).mono ?_
  rintro e w4 ⟨rfl, rfl⟩
  go_wp2_with fail
  generalize hX9 : World.setCell _ _ _ = w9
  obtain ⟨hT9, hg9⟩ := ((hT3.setS nm).setK 6).again w9 hX9
  have hg39 : Gr (fun k => k = tb) w3 w9 := ((Gr.set (S := fun k => k = tb) _ _ _ rfl).trans (Gr.set (S := fun k => k = tb) _ _ _ rfl)).trans hg9
  clear t0 t1 t2 t3 t4 u0 u1 u2 u3 u4 hlb hX9
  obtain ⟨⟨t0, t1, t2, t3, t4⟩, u0, u1, u2, u3, u4⟩ := hT9.facts
  refine bodyPost_ret (v := .tuple #[tkv 6 nm 0 nl i, .int .i64 0]) (by simp [results, Tryz.results16, go_sem, t0, t1, t2, t3, t4]) rfl ?_
  have hgZ : Gr (fun k => k = b) W w9 := hfin.out w9 (hgA.trans (hg39.mono (fun _ _ e => .inr e)))
  exact ⟨none, 0, rfl, World.ownsRow_nil _ _ _ _, hs3.1.gr hg39 (fun e => hne e.symm), hgZ⟩

set_option maxRecDepth 100000 in
set_option maxHeartbeats 4000000 in
theorem token_n_vo (W : World) (base b : Nat) (s : ByteArray) (i : Nat) (h : Rd W b s i) (hs : s.size ≤ 60000) (hi : i < s.size) (hE : Er W) (hS : Sg W) (hb4 : b ≠ 3) (hb0 : b ≠ 0) (hbase : base ≤ W.heap.size) (h1 : dig (pk s i) = false) (h2 : (pk s i == 34) = false) (h3 : low (pk s i) = false) (h4 : vab (pk s i) = true) (j : Nat) (hj : span inN s i = j) (hq : ¬ 32 < j - i) (hw : wrd (s.extract i j) = false) :
    Calls Tryz.prog 16 #[pt b] W fun e w' => EndT W base b s e w' (.ok (⟨3, s.extract i j, 0, [], i⟩, j)) := by
  have hiI : (i : Int) ≤ 60000 := by omega
  have hbl := h.lt
  obtain ⟨c0, c1, f0, f1⟩ := h.facts
  have hin : inN (pk s i) = true := by simp [inN, h4]
  have hcon : ∀ w, Rd w b s i → Calls Tryz.prog 31 #[pt b] w fun e w' => e = .returned (.tuple #[.string (s.extract i j), .int .i64 0]) ∧ St w b s w' j := fun w hw => by
    have := name_c w b s i hw (by omega) hin
    rw [hj] at this
    refine this.mono ?_
    intro e w' h
    rw [EndN, if_neg hq] at h
    exact h
  clear hin hj
  clear hq
  have hwc := fun w => word_c (s.extract i j) w
  rw [hw] at hwc
  clear hw
  obtain ⟨nm, hnm⟩ : ∃ nm, s.extract i j = nm := ⟨_, rfl⟩
  rw [hnm] at hwc hcon ⊢
  clear hnm
  obtain ⟨x, hx⟩ : ∃ x, pk s i = x := ⟨_, rfl⟩
  have Hx := Lib.hid hx
  have hp := fun W h => peek_c W b s i h
  rw [hx] at hp
  rw [hx] at h1 h2 h3 h4
  clear hx
  replace hi := Lib.hid hi
  replace hs := Lib.hid hs
  go_enter Tryz.func16, Tryz.ntmps16
  go_wp2_with fail
  generalize hW1 : W.alloc _ = w1
  have hT1 : Tk w1 W.heap.size 3 e0 0 nl i := hW1 ▸ heap_alloc_new W _
  have hg1 : Gr (fun _ => False) W w1 := hW1 ▸ Gr.alloc _ _ _
  have hne : W.heap.size ≠ b := by omega
  have hl4 := hE.lt
  have hn4 : 3 ≠ W.heap.size := by omega
  have hn0 : 0 ≠ W.heap.size := by omega
  have hR1 := h.gr hg1 (fun e => e)
  have hE1 := hE.gr hg1 (fun e => e)
  have hS1 := hS.gr hg1 (fun e => e)
  clear hW1 c0 c1 f0 f1 hbl hl4
  have hbs : Hid (base ≤ W.heap.size) := hbase
  have hnew : Hid (W.heap.size ≤ W.heap.size) := Nat.le_refl _
  clear hbase
  obtain ⟨tb, htb⟩ : ∃ tb, W.heap.size = tb := ⟨_, rfl⟩
  have hfin : Hid (∀ w', Gr (fun k => k = b ∨ k = tb) W w' → Gr (fun k => k = b) W w') := fun w' g => g.mono (fun j hj e => e.elim (fun e => e) (fun e => by omega))
  rw [htb] at hT1 hne hn4 hn0 hnew ⊢
  clear htb
  refine (hp _ hR1).mono ?_
  rintro e w2 ⟨rfl, hs2⟩
  have hT2 := hT1.gr hs2.2 hne
  have hE2 := hE1.gr hs2.2 (fun e => hb4 e.symm)
  have hS2 := hS1.gr hs2.2 (fun e => hb0 e.symm)
  have hgW2 : Gr (fun k => k = b ∨ k = tb) W w2 := (hg1.any _).trans (hs2.2.mono (fun _ _ e => .inl e))
  have hR2 := hs2.1
  clear hT1 hE1 hS1 hR1 hg1 hs2 hp
  have hlb := hT2.lt
  obtain ⟨⟨t0, t1, t2, t3, t4⟩, u0, u1, u2, u3, u4⟩ := hT2.facts
  go_wp2_with (first | (go_at_call 26; refine (digit_c _ _).mono ?_; rintro e w' ⟨rfl, rfl⟩) | (go_at_call 29; refine (lower_c _ _).mono ?_; rintro e w' ⟨rfl, rfl⟩) | (go_at_call 30; refine (variable_c _ _).mono ?_; rintro e w' ⟨rfl, rfl⟩))
  clear t0 t1 t2 t3 t4 u0 u1 u2 u3 u4 hlb
  have hTX : Tk w2 tb 3 e0 0 nl i := hT2
  have hgX : Gr (fun k => k = tb) w2 w2 := Gr.refl _ _
  obtain ⟨X, hX⟩ : ∃ X, w2 = X := ⟨_, rfl⟩
  have hgX : Gr (fun k => k = tb) w2 X := hX ▸ Gr.refl _ _
  rw [hX] at hTX ⊢
  clear hX
  refine (hcon X (hR2.gr hgX (fun e => hne e.symm))).mono ?_
  rintro e w3 ⟨rfl, hs3⟩
  have hgA : Gr (fun k => k = b ∨ k = tb) W w3 := (hgW2.trans (hgX.mono (fun _ _ e => .inr e))).trans (hs3.2.mono (fun _ _ e => .inl e))
  have hT3 := hTX.gr hs3.2 hne
  have hlb := hT3.lt
  obtain ⟨⟨t0, t1, t2, t3, t4⟩, u0, u1, u2, u3, u4⟩ := hT3.facts
  go_wp2_with fail
  refine (hwc _).mono ?_
  rintro e w4 ⟨rfl, rfl⟩
  go_wp2_with fail
  generalize hX9 : World.setCell _ _ _ = w9
  obtain ⟨hT9, hg9⟩ := ((hT3.setS nm)).again w9 hX9
  have hg39 : Gr (fun k => k = tb) w3 w9 := (Gr.set (S := fun k => k = tb) _ _ _ rfl).trans hg9
  clear t0 t1 t2 t3 t4 u0 u1 u2 u3 u4 hlb hX9
  obtain ⟨⟨t0, t1, t2, t3, t4⟩, u0, u1, u2, u3, u4⟩ := hT9.facts
  refine bodyPost_ret (v := .tuple #[tkv 3 nm 0 nl i, .int .i64 0]) (by simp [results, Tryz.results16, go_sem, t0, t1, t2, t3, t4]) rfl ?_
  have hgZ : Gr (fun k => k = b) W w9 := hfin.out w9 (hgA.trans (hg39.mono (fun _ _ e => .inr e)))
  exact ⟨none, 0, rfl, World.ownsRow_nil _ _ _ _, hs3.1.gr hg39 (fun e => hne e.symm), hgZ⟩

set_option maxRecDepth 100000 in
set_option maxHeartbeats 4000000 in
theorem token_n_ve (W : World) (base b : Nat) (s : ByteArray) (i : Nat) (h : Rd W b s i) (hs : s.size ≤ 60000) (hi : i < s.size) (hE : Er W) (hS : Sg W) (hb4 : b ≠ 3) (hb0 : b ≠ 0) (hbase : base ≤ W.heap.size) (h1 : dig (pk s i) = false) (h2 : (pk s i == 34) = false) (h3 : low (pk s i) = false) (h4 : vab (pk s i) = true) (j : Nat) (hj : span inN s i = j) (hq : 32 < j - i) :
    Calls Tryz.prog 16 #[pt b] W fun e w' => EndT W base b s e w' (.error 153) := by
  have hiI : (i : Int) ≤ 60000 := by omega
  have hbl := h.lt
  obtain ⟨c0, c1, f0, f1⟩ := h.facts
  have hin : inN (pk s i) = true := by simp [inN, h4]
  have hcon : ∀ w, Rd w b s i → Calls Tryz.prog 31 #[pt b] w fun e w' => e = .returned (.tuple #[.string ⟨#[]⟩, .int .i64 153]) ∧ Gr (fun k => k = b) w w' := fun w hw => by
    have := name_c w b s i hw (by omega) hin
    rw [hj] at this
    refine this.mono ?_
    intro e w' h
    rw [EndN, if_pos hq] at h
    exact h
  clear hin hj
  clear hq
  have hwc := fun w => word_c e0 w
  rw [show wrd e0 = false by decide +kernel] at hwc
  obtain ⟨x, hx⟩ : ∃ x, pk s i = x := ⟨_, rfl⟩
  have Hx := Lib.hid hx
  have hp := fun W h => peek_c W b s i h
  rw [hx] at hp
  rw [hx] at h1 h2 h3 h4
  clear hx
  replace hi := Lib.hid hi
  replace hs := Lib.hid hs
  go_enter Tryz.func16, Tryz.ntmps16
  go_wp2_with fail
  generalize hW1 : W.alloc _ = w1
  have hT1 : Tk w1 W.heap.size 3 e0 0 nl i := hW1 ▸ heap_alloc_new W _
  have hg1 : Gr (fun _ => False) W w1 := hW1 ▸ Gr.alloc _ _ _
  have hne : W.heap.size ≠ b := by omega
  have hl4 := hE.lt
  have hn4 : 3 ≠ W.heap.size := by omega
  have hn0 : 0 ≠ W.heap.size := by omega
  have hR1 := h.gr hg1 (fun e => e)
  have hE1 := hE.gr hg1 (fun e => e)
  have hS1 := hS.gr hg1 (fun e => e)
  clear hW1 c0 c1 f0 f1 hbl hl4
  have hbs : Hid (base ≤ W.heap.size) := hbase
  have hnew : Hid (W.heap.size ≤ W.heap.size) := Nat.le_refl _
  clear hbase
  obtain ⟨tb, htb⟩ : ∃ tb, W.heap.size = tb := ⟨_, rfl⟩
  have hfin : Hid (∀ w', Gr (fun k => k = b ∨ k = tb) W w' → Gr (fun k => k = b) W w') := fun w' g => g.mono (fun j hj e => e.elim (fun e => e) (fun e => by omega))
  rw [htb] at hT1 hne hn4 hn0 hnew ⊢
  clear htb
  refine (hp _ hR1).mono ?_
  rintro e w2 ⟨rfl, hs2⟩
  have hT2 := hT1.gr hs2.2 hne
  have hE2 := hE1.gr hs2.2 (fun e => hb4 e.symm)
  have hS2 := hS1.gr hs2.2 (fun e => hb0 e.symm)
  have hgW2 : Gr (fun k => k = b ∨ k = tb) W w2 := (hg1.any _).trans (hs2.2.mono (fun _ _ e => .inl e))
  have hR2 := hs2.1
  clear hT1 hE1 hS1 hR1 hg1 hs2 hp
  have hlb := hT2.lt
  obtain ⟨⟨t0, t1, t2, t3, t4⟩, u0, u1, u2, u3, u4⟩ := hT2.facts
  go_wp2_with (first | (go_at_call 26; refine (digit_c _ _).mono ?_; rintro e w' ⟨rfl, rfl⟩) | (go_at_call 29; refine (lower_c _ _).mono ?_; rintro e w' ⟨rfl, rfl⟩) | (go_at_call 30; refine (variable_c _ _).mono ?_; rintro e w' ⟨rfl, rfl⟩))
  clear t0 t1 t2 t3 t4 u0 u1 u2 u3 u4 hlb
  have hTX : Tk w2 tb 3 e0 0 nl i := hT2
  have hgX : Gr (fun k => k = tb) w2 w2 := Gr.refl _ _
  obtain ⟨X, hX⟩ : ∃ X, w2 = X := ⟨_, rfl⟩
  have hgX : Gr (fun k => k = tb) w2 X := hX ▸ Gr.refl _ _
  rw [hX] at hTX ⊢
  clear hX
  refine (hcon X (hR2.gr hgX (fun e => hne e.symm))).mono ?_
  rintro e w3 ⟨rfl, hg3⟩
  have hgA : Gr (fun k => k = b ∨ k = tb) W w3 := (hgW2.trans (hgX.mono (fun _ _ e => .inr e))).trans (hg3.mono (fun _ _ e => .inl e))
  have hT3 := hTX.gr hg3 hne
  have hlb := hT3.lt
  obtain ⟨⟨t0, t1, t2, t3, t4⟩, u0, u1, u2, u3, u4⟩ := hT3.facts
  go_wp2_with fail
  refine (hwc _).mono ?_
  rintro e w4 ⟨rfl, rfl⟩
  go_wp2_with fail
  generalize hX9 : World.setCell _ _ _ = w9
  obtain ⟨hT9, hg9⟩ := (hT3.setS e0).again w9 hX9
  have hg39 : Gr (fun k => k = tb) w3 w9 := (Gr.set (S := fun k => k = tb) _ _ _ rfl).trans hg9
  clear t0 t1 t2 t3 t4 u0 u1 u2 u3 u4 hlb hX9
  obtain ⟨⟨t0, t1, t2, t3, t4⟩, u0, u1, u2, u3, u4⟩ := hT9.facts
  refine bodyPost_ret (v := .tuple #[tkv 3 e0 0 nl i, .int .i64 153]) (by simp [results, Tryz.results16, go_sem, t0, t1, t2, t3, t4]) rfl ?_
  have hgZ : Gr (fun k => k = b) W w9 := hfin.out w9 (hgA.trans (hg39.mono (fun _ _ e => .inr e)))
  exact ⟨⟨_, _, _, _, rfl⟩, hgZ⟩

set_option maxRecDepth 100000 in
set_option maxHeartbeats 4000000 in
theorem token_s_ok (W : World) (base b : Nat) (s : ByteArray) (i : Nat) (h : Rd W b s i) (hs : s.size ≤ 60000) (hi : i < s.size) (hE : Er W) (hS : Sg W) (hb4 : b ≠ 3) (hb0 : b ≠ 0) (hbase : base ≤ W.heap.size) (h1 : dig (pk s i) = false) (h2 : (pk s i == 34) = false) (h3 : low (pk s i) = false) (h4 : vab (pk s i) = false) (l : List Int) (hq : sgn s i = some l) :
    Calls Tryz.prog 16 #[pt b] W fun e w' => EndT W base b s e w' (.ok (⟨5, sb l, 0, [], i⟩, i + l.length)) := by
  have hiI : (i : Int) ≤ 60000 := by omega
  have hbl := h.lt
  obtain ⟨c0, c1, f0, f1⟩ := h.facts
  have hcon : ∀ w, Rd w b s i → Sg w → Calls Tryz.prog 33 #[pt b] w fun e w' => EndG w b s i e w' (some l) := fun w hw hS => by
    have := sign_c w b s i hw (by omega) (by omega) hS hb0
    rw [hq] at this
    exact this
  clear hq
  obtain ⟨x, hx⟩ : ∃ x, pk s i = x := ⟨_, rfl⟩
  have Hx := Lib.hid hx
  have hp := fun W h => peek_c W b s i h
  rw [hx] at hp
  rw [hx] at h1 h2 h3 h4
  clear hx
  replace hi := Lib.hid hi
  replace hs := Lib.hid hs
  go_enter Tryz.func16, Tryz.ntmps16
  go_wp2_with fail
  generalize hW1 : W.alloc _ = w1
  have hT1 : Tk w1 W.heap.size 3 e0 0 nl i := hW1 ▸ heap_alloc_new W _
  have hg1 : Gr (fun _ => False) W w1 := hW1 ▸ Gr.alloc _ _ _
  have hne : W.heap.size ≠ b := by omega
  have hl4 := hE.lt
  have hn4 : 3 ≠ W.heap.size := by omega
  have hn0 : 0 ≠ W.heap.size := by omega
  have hR1 := h.gr hg1 (fun e => e)
  have hE1 := hE.gr hg1 (fun e => e)
  have hS1 := hS.gr hg1 (fun e => e)
  clear hW1 c0 c1 f0 f1 hbl hl4
  have hbs : Hid (base ≤ W.heap.size) := hbase
  have hnew : Hid (W.heap.size ≤ W.heap.size) := Nat.le_refl _
  clear hbase
  obtain ⟨tb, htb⟩ : ∃ tb, W.heap.size = tb := ⟨_, rfl⟩
  have hfin : Hid (∀ w', Gr (fun k => k = b ∨ k = tb) W w' → Gr (fun k => k = b) W w') := fun w' g => g.mono (fun j hj e => e.elim (fun e => e) (fun e => by omega))
  rw [htb] at hT1 hne hn4 hn0 hnew ⊢
  clear htb
  refine (hp _ hR1).mono ?_
  rintro e w2 ⟨rfl, hs2⟩
  have hT2 := hT1.gr hs2.2 hne
  have hE2 := hE1.gr hs2.2 (fun e => hb4 e.symm)
  have hS2 := hS1.gr hs2.2 (fun e => hb0 e.symm)
  have hgW2 : Gr (fun k => k = b ∨ k = tb) W w2 := (hg1.any _).trans (hs2.2.mono (fun _ _ e => .inl e))
  have hR2 := hs2.1
  clear hT1 hE1 hS1 hR1 hg1 hs2 hp
  have hlb := hT2.lt
  obtain ⟨⟨t0, t1, t2, t3, t4⟩, u0, u1, u2, u3, u4⟩ := hT2.facts
  go_wp2_with (first | (go_at_call 26; refine (digit_c _ _).mono ?_; rintro e w' ⟨rfl, rfl⟩) | (go_at_call 29; refine (lower_c _ _).mono ?_; rintro e w' ⟨rfl, rfl⟩) | (go_at_call 30; refine (variable_c _ _).mono ?_; rintro e w' ⟨rfl, rfl⟩))
  generalize hX : w2.setCell _ _ = X
  have hTX : Tk X tb 5 e0 0 nl i := hX ▸ hT2.setK 5
  have hgX : Gr (fun k => k = tb) w2 X := hX ▸ Gr.set _ _ _ rfl
  clear t0 t1 t2 t3 t4 u0 u1 u2 u3 u4 hlb hX
  refine (hcon X (hR2.gr hgX (fun e => hne e.symm)) (hS2.gr hgX hn0)).mono ?_
  rintro e w3 ⟨q, hq, rfl, rfl, hs3⟩
  have hsq : sgB q = sb (sgL q) := rfl
  rw [hsq]
  clear hsq
  obtain ⟨nm, hnm⟩ : ∃ nm, sb (sgL q) = nm := ⟨_, rfl⟩
  rw [hnm]
  have Hnm := Lib.hid hnm
  clear hnm
  have hgA : Gr (fun k => k = b ∨ k = tb) W w3 := (hgW2.trans (hgX.mono (fun _ _ e => .inr e))).trans (hs3.2.mono (fun _ _ e => .inl e))
  have hT3 := hTX.gr hs3.2 hne
  have hlb := hT3.lt
  obtain ⟨⟨t0, t1, t2, t3, t4⟩, u0, u1, u2, u3, u4⟩ := hT3.facts
  go_wp2_with fail
  generalize hX9 : World.setCell _ _ _ = w9
  obtain ⟨hT9, hg9⟩ := (hT3.setS nm).again w9 hX9
  have hg39 : Gr (fun k => k = tb) w3 w9 := (Gr.set (S := fun k => k = tb) _ _ _ rfl).trans hg9
  clear t0 t1 t2 t3 t4 u0 u1 u2 u3 u4 hlb hX9
  obtain ⟨⟨t0, t1, t2, t3, t4⟩, u0, u1, u2, u3, u4⟩ := hT9.facts
  refine bodyPost_ret (v := .tuple #[tkv 5 nm 0 nl i, .int .i64 0]) (by simp [results, Tryz.results16, go_sem, t0, t1, t2, t3, t4]) rfl ?_
  have hgZ : Gr (fun k => k = b) W w9 := hfin.out w9 (hgA.trans (hg39.mono (fun _ _ e => .inr e)))
  exact ⟨none, 0, by rw [Hnm.out]; rfl, World.ownsRow_nil _ _ _ _, hs3.1.gr hg39 (fun e => hne e.symm), hgZ⟩

set_option maxRecDepth 100000 in
set_option maxHeartbeats 4000000 in
theorem token_s_no (W : World) (base b : Nat) (s : ByteArray) (i : Nat) (h : Rd W b s i) (hs : s.size ≤ 60000) (hi : i < s.size) (hE : Er W) (hS : Sg W) (hb4 : b ≠ 3) (hb0 : b ≠ 0) (hbase : base ≤ W.heap.size) (h1 : dig (pk s i) = false) (h2 : (pk s i == 34) = false) (h3 : low (pk s i) = false) (h4 : vab (pk s i) = false) (hq : sgn s i = none) :
    Calls Tryz.prog 16 #[pt b] W fun e w' => EndT W base b s e w' (.error 151) := by
  have hiI : (i : Int) ≤ 60000 := by omega
  have hbl := h.lt
  obtain ⟨c0, c1, f0, f1⟩ := h.facts
  have hcon : ∀ w, Rd w b s i → Sg w → Calls Tryz.prog 33 #[pt b] w fun e w' => EndG w b s i e w' (none) := fun w hw hS => by
    have := sign_c w b s i hw (by omega) (by omega) hS hb0
    rw [hq] at this
    exact this
  clear hq
  obtain ⟨x, hx⟩ : ∃ x, pk s i = x := ⟨_, rfl⟩
  have Hx := Lib.hid hx
  have hp := fun W h => peek_c W b s i h
  rw [hx] at hp
  rw [hx] at h1 h2 h3 h4
  clear hx
  replace hi := Lib.hid hi
  replace hs := Lib.hid hs
  go_enter Tryz.func16, Tryz.ntmps16
  go_wp2_with fail
  generalize hW1 : W.alloc _ = w1
  have hT1 : Tk w1 W.heap.size 3 e0 0 nl i := hW1 ▸ heap_alloc_new W _
  have hg1 : Gr (fun _ => False) W w1 := hW1 ▸ Gr.alloc _ _ _
  have hne : W.heap.size ≠ b := by omega
  have hl4 := hE.lt
  have hn4 : 3 ≠ W.heap.size := by omega
  have hn0 : 0 ≠ W.heap.size := by omega
  have hR1 := h.gr hg1 (fun e => e)
  have hE1 := hE.gr hg1 (fun e => e)
  have hS1 := hS.gr hg1 (fun e => e)
  clear hW1 c0 c1 f0 f1 hbl hl4
  have hbs : Hid (base ≤ W.heap.size) := hbase
  have hnew : Hid (W.heap.size ≤ W.heap.size) := Nat.le_refl _
  clear hbase
  obtain ⟨tb, htb⟩ : ∃ tb, W.heap.size = tb := ⟨_, rfl⟩
  have hfin : Hid (∀ w', Gr (fun k => k = b ∨ k = tb) W w' → Gr (fun k => k = b) W w') := fun w' g => g.mono (fun j hj e => e.elim (fun e => e) (fun e => by omega))
  rw [htb] at hT1 hne hn4 hn0 hnew ⊢
  clear htb
  refine (hp _ hR1).mono ?_
  rintro e w2 ⟨rfl, hs2⟩
  have hT2 := hT1.gr hs2.2 hne
  have hE2 := hE1.gr hs2.2 (fun e => hb4 e.symm)
  have hS2 := hS1.gr hs2.2 (fun e => hb0 e.symm)
  have hgW2 : Gr (fun k => k = b ∨ k = tb) W w2 := (hg1.any _).trans (hs2.2.mono (fun _ _ e => .inl e))
  have hR2 := hs2.1
  clear hT1 hE1 hS1 hR1 hg1 hs2 hp
  have hlb := hT2.lt
  obtain ⟨⟨t0, t1, t2, t3, t4⟩, u0, u1, u2, u3, u4⟩ := hT2.facts
  go_wp2_with (first | (go_at_call 26; refine (digit_c _ _).mono ?_; rintro e w' ⟨rfl, rfl⟩) | (go_at_call 29; refine (lower_c _ _).mono ?_; rintro e w' ⟨rfl, rfl⟩) | (go_at_call 30; refine (variable_c _ _).mono ?_; rintro e w' ⟨rfl, rfl⟩))
  generalize hX : w2.setCell _ _ = X
  have hTX : Tk X tb 5 e0 0 nl i := hX ▸ hT2.setK 5
  have hgX : Gr (fun k => k = tb) w2 X := hX ▸ Gr.set _ _ _ rfl
  clear t0 t1 t2 t3 t4 u0 u1 u2 u3 u4 hlb hX
  refine (hcon X (hR2.gr hgX (fun e => hne e.symm)) (hS2.gr hgX hn0)).mono ?_
  rintro e w3 ⟨rfl, hg3⟩
  have hgA : Gr (fun k => k = b ∨ k = tb) W w3 := (hgW2.trans (hgX.mono (fun _ _ e => .inr e))).trans (hg3.mono (fun _ _ e => .inl e))
  have hT3 := hTX.gr hg3 hne
  have hlb := hT3.lt
  obtain ⟨⟨t0, t1, t2, t3, t4⟩, u0, u1, u2, u3, u4⟩ := hT3.facts
  go_wp2_with fail
  generalize hX9 : World.setCell _ _ _ = w9
  obtain ⟨hT9, hg9⟩ := (hT3.setS e0).again w9 hX9
  have hg39 : Gr (fun k => k = tb) w3 w9 := (Gr.set (S := fun k => k = tb) _ _ _ rfl).trans hg9
  clear t0 t1 t2 t3 t4 u0 u1 u2 u3 u4 hlb hX9
  obtain ⟨⟨t0, t1, t2, t3, t4⟩, u0, u1, u2, u3, u4⟩ := hT9.facts
  refine bodyPost_ret (v := .tuple #[tkv 5 e0 0 nl i, .int .i64 151]) (by simp [results, Tryz.results16, go_sem, t0, t1, t2, t3, t4]) rfl ?_
  have hgZ : Gr (fun k => k = b) W w9 := hfin.out w9 (hgA.trans (hg39.mono (fun _ _ e => .inr e)))
  exact ⟨⟨_, _, _, _, rfl⟩, hgZ⟩

theorem token_c (W : World) (base b : Nat) (s : ByteArray) (i : Nat) (h : Rd W b s i) (hs : s.size ≤ 60000) (hi : i < s.size) (hE : Er W) (hS : Sg W) (hb4 : b ≠ 3) (hb0 : b ≠ 0) (hbase : base ≤ W.heap.size) :
    Calls Tryz.prog 16 #[pt b] W fun e w' => EndT W base b s e w' (tokV s i) := by
  unfold tokV
  by_cases h1 : dig (pk s i) = true
  · rw [if_pos h1]
    by_cases hq : 4611686018427387903 < dvx s i (span dig s i) ∨ inN (pk s (span dig s i)) = true
    · rw [if_pos hq]; exact token_int_no W base b s i h hs hi hE hS hb4 hb0 hbase h1 _ _ rfl rfl hq
    · rw [if_neg hq]; exact token_int_ok W base b s i h hs hi hE hS hb4 hb0 hbase h1 _ _ rfl rfl hq
  rw [if_neg h1]
  by_cases h2 : pk s i = 34
  · rw [if_pos h2]
    cases hq : qtd s i with
    | none => exact token_q_no W base b s i h hs hi hE hS hb4 hb0 hbase h2 hq
    | some p => exact token_q_ok W base b s i h hs hi hE hS hb4 hb0 hbase h2 p.1 p.2 hq
  rw [if_neg h2]
  have h1' : dig (pk s i) = false := by simpa using h1
  have h2' : (pk s i == 34) = false := by simpa using h2
  by_cases h3 : low (pk s i) = true
  · rw [if_pos (.inl h3)]
    by_cases hq : 32 < span inN s i - i
    · rw [if_pos hq]; exact token_n_le W base b s i h hs hi hE hS hb4 hb0 hbase h1' h2' h3 _ rfl hq
    · rw [if_neg hq]
      by_cases hw : wrd (s.extract i (span inN s i)) = true
      · rw [if_pos hw]; exact token_n_lw W base b s i h hs hi hE hS hb4 hb0 hbase h1' h2' h3 _ rfl hq hw
      · rw [if_neg hw, if_pos h3]; exact token_n_lo W base b s i h hs hi hE hS hb4 hb0 hbase h1' h2' h3 _ rfl hq (by simpa using hw)
  have h3' : low (pk s i) = false := by simpa using h3
  by_cases h4 : vab (pk s i) = true
  · rw [if_pos (.inr h4)]
    by_cases hq : 32 < span inN s i - i
    · rw [if_pos hq]; exact token_n_ve W base b s i h hs hi hE hS hb4 hb0 hbase h1' h2' h3' h4 _ rfl hq
    · rw [if_neg hq]
      by_cases hw : wrd (s.extract i (span inN s i)) = true
      · rw [if_pos hw]; exact token_n_vw W base b s i h hs hi hE hS hb4 hb0 hbase h1' h2' h3' h4 _ rfl hq hw
      · rw [if_neg hw, if_neg h3]; exact token_n_vo W base b s i h hs hi hE hS hb4 hb0 hbase h1' h2' h3' h4 _ rfl hq (by simpa using hw)
  have h4' : vab (pk s i) = false := by simpa using h4
  rw [if_neg (fun e => e.elim h3 h4)]
  cases hq : sgn s i with
  | none => exact token_s_no W base b s i h hs hi hE hS hb4 hb0 hbase h1' h2' h3' h4' hq
  | some l => exact token_s_ok W base b s i h hs hi hE hS hb4 hb0 hbase h1' h2' h3' h4' l hq
end Go.Proofs.YtggkjkkbkpnkiaaGreatDoor



