/-
  Carried over from another seat of ours (A).
-/
import Derived.Test.YtbmbgnmkakkpfaaDoorProg
import Derived.WalkKit
import Derived.WalkLawsBesides
import Derived.ProofKit
import Derived.Deep.Light
import Derived.WalkSpells
import Derived.Lib.Strings
import Derived.Lib.Hide
import Derived.Deep.QuietTactic
import Derived.BigQuiet
set_option linter.unusedVariables false
set_option linter.unusedSimpArgs false
namespace Go.Proofs.YtbmbgnmkakkpfaaDoor
open Go.RowKit

def bt (s : ByteArray) (k : Nat) : Int := ((s.data[k]?.getD 0).toNat : Int)
theorem bt_nonneg (s : ByteArray) (k : Nat) : 0 ≤ bt s k := Int.natCast_nonneg _
theorem bt_lt (s : ByteArray) (k : Nat) : bt s k < 256 := by
  have : (s.data[k]?.getD 0).toNat < 256 := UInt8.toNat_lt _
  unfold bt; omega

/-! ### Worlds -/
/-- From W to W' only blocks of S and new ones have turned. -/
structure Gr (S : Nat → Prop) (W W' : World) : Prop where
  os : W'.os = W.os
  tape : W'.tape = W.tape
  output : W'.output = W.output
  size : W.heap.size ≤ W'.heap.size
  block : ∀ k, k < W.heap.size → ¬ S k → W'.heap[k]? = W.heap[k]?
variable {S S' : Nat → Prop} {W W1 W' : World}
theorem Gr.refl (S : Nat → Prop) (W : World) : Gr S W W := ⟨rfl, rfl, rfl, Nat.le_refl _, fun _ _ _ => rfl⟩
theorem Gr.trans' (h : Gr S W W1) (k : Gr S' W1 W') (hs : ∀ i, i < W.heap.size → S' i → S i) : Gr S W W' :=
  ⟨k.os.trans h.os, k.tape.trans h.tape, k.output.trans h.output, Nat.le_trans h.size k.size,
   fun i hi hn => (k.block i (Nat.lt_of_lt_of_le hi h.size) (fun e => hn (hs i hi e))).trans (h.block i hi hn)⟩
theorem Gr.trans (h : Gr S W W1) (k : Gr S W1 W') : Gr S W W' := h.trans' k (fun _ _ e => e)
theorem Gr.mono (h : Gr S W W') (hs : ∀ i, i < W.heap.size → S i → S' i) : Gr S' W W' :=
  ⟨h.os, h.tape, h.output, h.size, fun i hi hn => h.block i hi (fun e => hn (hs i hi e))⟩
theorem Gr.of_below (h : Below W.heap.size W W') (S : Nat → Prop) : Gr S W W' := ⟨h.os, h.tape, h.output, h.size, fun k hk _ => h.block k hk⟩
theorem Gr.of_grown {row : Option Nat} (h : W.grownBy W' row) (hr : ∀ k, row = some k → S k) : Gr S W W' :=
  ⟨h.os, h.tape, h.output, h.size, fun k hk hn => h.block k hk (fun e => hn (hr k e.symm))⟩
theorem Gr.alloc (W : World) (o : Obj) (S : Nat → Prop) : Gr S W (W.alloc o) := .of_below ((Below.refl _ W).alloc (Nat.le_refl _) o) S
theorem Gr.set (W : World) (p : Addr) (v : Value) (h : S p.block) : Gr S W (W.setCell p v) :=
  ⟨rfl, rfl, rfl, by simp, fun k _ hn => heap_setCell_other W p k v (fun e => hn (e ▸ h))⟩
theorem Gr.drew (W : World) (S : Nat → Prop) : Gr S W W.drew := .of_below ((Below.refl _ W).drew) S
theorem Gr.drewN (W : World) (m : Nat) (S : Nat → Prop) : Gr S W (W.drewN m) := ⟨rfl, rfl, rfl, Nat.le_refl _, fun _ _ _ => rfl⟩
/-- Nothing that was there has turned: then it is so whatever may turn. -/
theorem Gr.any (h : Gr (fun _ => False) W W') (S : Nat → Prop) : Gr S W W' := h.mono (fun _ _ e => e.elim)
theorem Gr.keep (g : Gr S W W') {b : Nat} {o : Obj} (h : W.heap[b]? = some o) (hs : ¬ S b) : W'.heap[b]? = some o := (g.block b (Array.getElem?_eq_some_iff.1 h).1 hs).trans h

abbrev pt (b : Nat) : Value := .pointer (some ⟨b, 0, none⟩)

/-- A reader in memory: the text, the place. -/
def Rd (W : World) (b : Nat) (s : ByteArray) (i : Nat) : Prop := W.heap[b]? = some (.cells #[.string s, .int .i64 (i : Int)] 52 (0, 0))
theorem Rd.facts {b : Nat} {s : ByteArray} {i : Nat} (h : Rd W b s i) :
    W.cell? ⟨b, 0, none⟩ = some (.string s) ∧ W.cell? ⟨b, 1, none⟩ = some (.int .i64 (i : Int)) ∧
    W.frozen? ⟨b, 0, none⟩ = false ∧ W.frozen? ⟨b, 1, none⟩ = false := by
  unfold Rd at h
  simp [World.cell?, World.frozen?, h]
theorem Rd.lt {b : Nat} {s : ByteArray} {i : Nat} (h : Rd W b s i) : b < W.heap.size := (Array.getElem?_eq_some_iff.1 h).1
theorem Rd.gr {b : Nat} {s : ByteArray} {i : Nat} (h : Rd W b s i) (g : Gr S W W') (hs : ¬ S b) : Rd W' b s i := (g.block b h.lt hs).trans h
theorem Rd.setAt {b : Nat} {s : ByteArray} {i : Nat} (h : Rd W b s i) (j : Nat) : Rd (W.setCell ⟨b, 1, none⟩ (.int .i64 (j : Int))) b s j := heap_setCell_same W b 1 _ 52 _ h

/-- The byte at a place; at the end 0. -/
def pk (s : ByteArray) (i : Nat) : Int := if i < s.size then bt s i else 0
theorem pk_nonneg (s : ByteArray) (k : Nat) : 0 ≤ pk s k := by unfold pk; split; exact bt_nonneg s k; decide
theorem pk_lt (s : ByteArray) (k : Nat) : pk s k < 256 := by unfold pk; split; exact bt_lt s k; decide
theorem lt_of_pk {s : ByteArray} {i : Nat} (h : pk s i ≠ 0) : i < s.size := by
  unfold pk at h; split at h
  · assumption
  · exact absurd rfl h

theorem ix (s : ByteArray) (k : Nat) (h : k < s.size) (w : World) : (Instr.index 9 (.string s) (.int .i64 (k : Int))).run Tryd.prog w = .ok (.int .u8 (bt s k)) w := by
  rw [run_index_string w 9 s .i64 k (by kernel_rfl), dif_pos ⟨by omega, by omega⟩]
  have h2 : k < s.data.size := h
  have e : s[k]? = some s[k] := ByteArray.getElem?_lt' s k h
  simp only [bt, Int.toNat_natCast, Array.getElem?_eq_getElem h2, Option.getD_some]
  rfl

theorem Rd.drewN {b : Nat} {s : ByteArray} {i : Nat} (h : Rd W b s i) (m : Nat) : Rd (W.drewN m) b s i := h
/-- The same reader, at another place; nothing else that was there has turned. -/
def St (W : World) (b : Nat) (s : ByteArray) (w' : World) (i : Nat) : Prop := Rd w' b s i ∧ Gr (fun k => k = b) W w'
theorem St.trans {b : Nat} {s : ByteArray} {i i' : Nat} (h : St W b s W1 i) (k : St W1 b s W' i') : St W b s W' i' := ⟨k.1, h.2.trans k.2⟩
theorem St.set {b : Nat} {s : ByteArray} {i : Nat} (h : St W b s W1 i) (j : Nat) : St W b s (W1.setCell ⟨b, 1, none⟩ (.int .i64 (j : Int))) j := ⟨h.1.setAt j, h.2.trans (Gr.set _ _ _ rfl)⟩

theorem drewN_drewN (W : World) (a b : Nat) : (W.drewN a).drewN b = W.drewN (a + b) := by
  simp [World.drewN, Nat.add_assoc]
set_option maxRecDepth 20000 in
set_option maxHeartbeats 400000 in
theorem peek_q (W : World) (b : Nat) (s : ByteArray) (i : Nat) (h : Rd W b s i) :
    Calls Tryd.prog 25 #[pt b] W fun e w' => e = .returned (.int .u8 (pk s i)) ∧ ∃ m, w' = W.drewN m := by
  obtain ⟨c0, c1, f0, f1⟩ := h.facts
  by_cases hlt : i < s.size
  · have h1 : decide ((i : Int) < (s.size : Int)) = true := by simp; omega
    have hx := ix s i hlt
    rw [show pk s i = bt s i by simp [pk, hlt]]
    go_enter Tryd.func25, Tryd.ntmps25
    go_wp2
    go_quiet (fail)
    go_wp2
    go_quiet (fail)
    go_wp2
    go_ret
    exact ⟨rfl, _, drewN_drewN _ _ _⟩
  · have h1 : decide ((i : Int) < (s.size : Int)) = false := by simp; omega
    rw [show pk s i = 0 by simp [pk, hlt]]
    go_enter Tryd.func25, Tryd.ntmps25
    go_wp2
    go_quiet (fail)
    go_wp2
    go_ret
    exact ⟨rfl, _, rfl⟩
theorem peek_c (W : World) (b : Nat) (s : ByteArray) (i : Nat) (h : Rd W b s i) :
    Calls Tryd.prog 25 #[pt b] W fun e w' => e = .returned (.int .u8 (pk s i)) ∧ St W b s w' i := by
  refine (peek_q W b s i h).mono ?_
  rintro e w' ⟨rfl, m, rfl⟩
  exact ⟨rfl, h.drewN m, Gr.drewN W m _⟩
set_option maxRecDepth 20000 in
set_option maxHeartbeats 400000 in
theorem next_c (W : World) (b : Nat) (s : ByteArray) (i : Nat) (h : Rd W b s i) (hi : i ≤ 70000) :
    Calls Tryd.prog 46 #[pt b] W fun e w' => e = .returned (.int .u8 (pk s i)) ∧ St W b s w' (i + 1) := by
  have hi2 : (i : Int) ≤ 70000 := by omega
  clear hi
  go_enter Tryd.func46, Tryd.ntmps46
  go_wp2_with fail
  refine (peek_c W b s i h).mono ?_
  rintro e w1 ⟨rfl, hs1⟩
  obtain ⟨c0, c1, f0, f1⟩ := hs1.1.facts
  go_wp2_with fail
  go_ret
  exact ⟨rfl, hs1.set (i + 1)⟩

def dig (c : Int) : Bool := decide (48 ≤ c) && decide (c ≤ 57)
def low (c : Int) : Bool := decide (97 ≤ c) && decide (c ≤ 122)
def vab (c : Int) : Bool := (decide (65 ≤ c) && decide (c ≤ 90)) || (c == 95)
def inN (c : Int) : Bool := low c || vab c || dig c
def shw (c : Int) : Bool := decide (32 ≤ c) && decide (c ≤ 126)
def blk (c : Int) : Bool := (c == 32) || (c == 9) || (c == 10) || (c == 13)

theorem digit_c (c : Int) (w : World) : Calls Tryd.prog 26 #[.int .u8 c] w fun e w' => e = .returned (.bool (dig c)) ∧ w = w' := by
  by_cases h1 : 48 ≤ c <;> by_cases h2 : c ≤ 57 <;> simp only [dig, h1, h2, decide_true, decide_false, Bool.and_true, Bool.and_false, Bool.false_and, Bool.true_and]
  all_goals (go_enter Tryd.func26, Tryd.ntmps26; go_wp2; go_ret; exact ⟨rfl, rfl⟩)
theorem lower_c (c : Int) (w : World) : Calls Tryd.prog 29 #[.int .u8 c] w fun e w' => e = .returned (.bool (low c)) ∧ w = w' := by
  by_cases h1 : 97 ≤ c <;> by_cases h2 : c ≤ 122 <;> simp only [low, h1, h2, decide_true, decide_false, Bool.and_true, Bool.and_false, Bool.false_and, Bool.true_and]
  all_goals (go_enter Tryd.func29, Tryd.ntmps29; go_wp2; go_ret; exact ⟨rfl, rfl⟩)
theorem shown_c (c : Int) (w : World) : Calls Tryd.prog 48 #[.int .u8 c] w fun e w' => e = .returned (.bool (shw c)) ∧ w = w' := by
  by_cases h1 : 32 ≤ c <;> by_cases h2 : c ≤ 126 <;> simp only [shw, h1, h2, decide_true, decide_false, Bool.and_true, Bool.and_false, Bool.false_and, Bool.true_and]
  all_goals (go_enter Tryd.func48, Tryd.ntmps48; go_wp2; go_ret; exact ⟨rfl, rfl⟩)
theorem variable_c (c : Int) (w : World) : Calls Tryd.prog 30 #[.int .u8 c] w fun e w' => e = .returned (.bool (vab c)) ∧ w = w' := by
  by_cases h1 : 65 ≤ c <;> by_cases h2 : c ≤ 90 <;> cases h3 : (c == 95) <;> simp only [vab, h1, h2, h3, decide_true, decide_false, Bool.and_true, Bool.and_false, Bool.false_and, Bool.true_and, Bool.or_true, Bool.or_false, Bool.false_or, Bool.true_or]
  all_goals (go_enter Tryd.func30, Tryd.ntmps30; go_wp2; go_ret; exact ⟨rfl, rfl⟩)
theorem blank_c (c : Int) (w : World) : Calls Tryd.prog 24 #[.int .u8 c] w fun e w' => e = .returned (.bool (blk c)) ∧ w = w' := by
  cases h1 : (c == 32) <;> cases h2 : (c == 9) <;> cases h3 : (c == 10) <;> cases h4 : (c == 13) <;> simp only [blk, h1, h2, h3, h4, Bool.or_true, Bool.or_false, Bool.false_or, Bool.true_or]
  all_goals (go_enter Tryd.func24, Tryd.ntmps24; go_wp2; go_ret; exact ⟨rfl, rfl⟩)
set_option maxHeartbeats 800000 in
theorem inName_c (c : Int) (w : World) : Calls Tryd.prog 37 #[.int .u8 c] w fun e w' => e = .returned (.bool (inN c)) ∧ w = w' := by
  cases h1 : low c <;> cases h2 : vab c <;> cases h3 : dig c <;> simp only [inN, h1, h2, h3, Bool.or_true, Bool.or_false, Bool.false_or, Bool.true_or]
  all_goals
    go_enter Tryd.func37, Tryd.ntmps37
    go_wp2_with (first | (go_at_call 29; refine (lower_c _ _).mono ?_; rintro e w' ⟨rfl, rfl⟩) | (go_at_call 26; refine (digit_c _ _).mono ?_; rintro e w' ⟨rfl, rfl⟩) | (go_at_call 30; refine (variable_c _ _).mono ?_; rintro e w' ⟨rfl, rfl⟩))
    go_ret
    exact ⟨rfl, rfl⟩
end Go.Proofs.YtbmbgnmkakkpfaaDoor

