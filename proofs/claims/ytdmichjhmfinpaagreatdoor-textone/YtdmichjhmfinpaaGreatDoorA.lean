/-
  The reader's small steps: which byte comes next, which bytes are digits, letters, shown ones; what a reader is in memory, and what a call leaves as it was.
-/
import Derived.Test.YtdmichjhmfinpaaGreatDoorProg
import Derived.WalkKit
import Derived.WalkLawsBesides
import Derived.ProofKit
import Derived.Deep.Light
import Derived.WalkSpells
import Derived.Lib.Strings
import Derived.Lib.Hide
import Derived.Deep.QuietTactic
import Derived.BigQuiet
set_option linter.unusedVariables false
set_option linter.unusedSimpArgs false
namespace Go.Proofs.YtdmichjhmfinpaaGreatDoor
open Go.RowKit

@[go_sem] theorem st_complex (P : Program) (w : World) (a : Addr) (m : Mode) (k : FloatKind) (x y : Nat) : (store a (.complex k x y) m).run P w = stored P w a (.complex k x y) m := run_store P w a _ m rfl
@[go_sem] theorem st_float (P : Program) (w : World) (a : Addr) (m : Mode) (k : FloatKind) (x : Nat) : (store a (.float k x) m).run P w = stored P w a (.float k x) m := run_store P w a _ m rfl

def bt (s : ByteArray) (k : Nat) : Int := ((s.data[k]?.getD 0).toNat : Int)
theorem bt_nonneg (s : ByteArray) (k : Nat) : 0 ≤ bt s k := Int.natCast_nonneg _
theorem bt_lt (s : ByteArray) (k : Nat) : bt s k < 256 := by
  have : (s.data[k]?.getD 0).toNat < 256 := UInt8.toNat_lt _
  unfold bt; omega

/-! ### Worlds -/
/-- From W to W' only blocks of S and new ones have turned. -/
structure Gr (S : Nat → Prop) (W W' : World) : Prop where
  os : W'.os = W.os
  tape : W'.tape = W.tape
  output : W'.output = W.output
  size : W.heap.size ≤ W'.heap.size
  block : ∀ k, k < W.heap.size → ¬ S k → W'.heap[k]? = W.heap[k]?
variable {S S' : Nat → Prop} {W W1 W' : World}
theorem Gr.refl (S : Nat → Prop) (W : World) : Gr S W W := ⟨rfl, rfl, rfl, Nat.le_refl _, fun _ _ _ => rfl⟩
theorem Gr.trans' (h : Gr S W W1) (k : Gr S' W1 W') (hs : ∀ i, i < W.heap.size → S' i → S i) : Gr S W W' :=
  ⟨k.os.trans h.os, k.tape.trans h.tape, k.output.trans h.output, Nat.le_trans h.size k.size,
   fun i hi hn => (k.block i (Nat.lt_of_lt_of_le hi h.size) (fun e => hn (hs i hi e))).trans (h.block i hi hn)⟩
theorem Gr.trans (h : Gr S W W1) (k : Gr S W1 W') : Gr S W W' := h.trans' k (fun _ _ e => e)
theorem Gr.mono (h : Gr S W W') (hs : ∀ i, i < W.heap.size → S i → S' i) : Gr S' W W' :=
  ⟨h.os, h.tape, h.output, h.size, fun i hi hn => h.block i hi (fun e => hn (hs i hi e))⟩
theorem Gr.of_below (h : Below W.heap.size W W') (S : Nat → Prop) : Gr S W W' := ⟨h.os, h.tape, h.output, h.size, fun k hk _ => h.block k hk⟩
theorem Gr.of_grown {row : Option Nat} (h : W.grownBy W' row) (hr : ∀ k, row = some k → S k) : Gr S W W' :=
  ⟨h.os, h.tape, h.output, h.size, fun k hk hn => h.block k hk (fun e => hn (hr k e.symm))⟩
theorem Gr.alloc (W : World) (o : Obj) (S : Nat → Prop) : Gr S W (W.alloc o) := .of_below ((Below.refl _ W).alloc (Nat.le_refl _) o) S
theorem Gr.set (W : World) (p : Addr) (v : Value) (h : S p.block) : Gr S W (W.setCell p v) :=
  ⟨rfl, rfl, rfl, by simp, fun k _ hn => heap_setCell_other W p k v (fun e => hn (e ▸ h))⟩
theorem Gr.drew (W : World) (S : Nat → Prop) : Gr S W W.drew := .of_below ((Below.refl _ W).drew) S
theorem Gr.below (h : Gr S W W') {N : Nat} (hN : N ≤ W.heap.size) (hs : ∀ i, S i → N ≤ i) : Below N W W' :=
  ⟨h.os, h.tape, h.output, h.size, fun k hk => h.block k (by omega) (fun e => by have := hs k e; omega)⟩

abbrev pt (b : Nat) : Value := .pointer (some ⟨b, 0, none⟩)

/-- A reader in memory: the text, the place, the size so far. -/
def Rd (W : World) (b : Nat) (s : ByteArray) (i n : Nat) : Prop := W.heap[b]? = some (.cells #[.string s, .int .i64 (i : Int), .int .i64 (n : Int)] 50 (0, 0))
theorem Rd.facts {b : Nat} {s : ByteArray} {i n : Nat} (h : Rd W b s i n) :
    W.cell? ⟨b, 0, none⟩ = some (.string s) ∧ W.cell? ⟨b, 1, none⟩ = some (.int .i64 (i : Int)) ∧ W.cell? ⟨b, 2, none⟩ = some (.int .i64 (n : Int)) ∧
    W.frozen? ⟨b, 0, none⟩ = false ∧ W.frozen? ⟨b, 1, none⟩ = false ∧ W.frozen? ⟨b, 2, none⟩ = false := by
  unfold Rd at h
  simp [World.cell?, World.frozen?, h]
theorem Rd.lt {b : Nat} {s : ByteArray} {i n : Nat} (h : Rd W b s i n) : b < W.heap.size := (Array.getElem?_eq_some_iff.1 h).1
theorem Rd.gr {b : Nat} {s : ByteArray} {i n : Nat} (h : Rd W b s i n) (g : Gr S W W') (hs : ¬ S b) : Rd W' b s i n := (g.block b h.lt hs).trans h
theorem Rd.setAt {b : Nat} {s : ByteArray} {i n : Nat} (h : Rd W b s i n) (j : Nat) : Rd (W.setCell ⟨b, 1, none⟩ (.int .i64 (j : Int))) b s j n := heap_setCell_same W b 1 _ 50 _ h
theorem Rd.setSz {b : Nat} {s : ByteArray} {i n : Nat} (h : Rd W b s i n) (j : Nat) : Rd (W.setCell ⟨b, 2, none⟩ (.int .i64 (j : Int))) b s i j := heap_setCell_same W b 2 _ 50 _ h

/-- The byte at a place; at the end 0. -/
def pk (s : ByteArray) (i : Nat) : Int := if i < s.size then bt s i else 0
theorem pk_nonneg (s : ByteArray) (k : Nat) : 0 ≤ pk s k := by unfold pk; split; exact bt_nonneg s k; decide
theorem pk_lt (s : ByteArray) (k : Nat) : pk s k < 256 := by unfold pk; split; exact bt_lt s k; decide
theorem lt_of_pk {s : ByteArray} {i : Nat} (h : pk s i ≠ 0) : i < s.size := by
  unfold pk at h; split at h
  · assumption
  · exact absurd rfl h

theorem ix (s : ByteArray) (k : Nat) (h : k < s.size) (w : World) : (Instr.index 9 (.string s) (.int .i64 (k : Int))).run Tryz.prog w = .ok (.int .u8 (bt s k)) w := by
  rw [run_index_string w 9 s .i64 k (by kernel_rfl), dif_pos ⟨by omega, by omega⟩]
  have h2 : k < s.data.size := h
  have e : s[k]? = some s[k] := ByteArray.getElem?_lt' s k h
  simp only [bt, Int.toNat_natCast, Array.getElem?_eq_getElem h2, Option.getD_some]
  rfl

theorem Gr.drewN (W : World) (m : Nat) (S : Nat → Prop) : Gr S W (W.drewN m) := ⟨rfl, rfl, rfl, Nat.le_refl _, fun _ _ _ => rfl⟩
theorem Rd.drewN {b : Nat} {s : ByteArray} {i n : Nat} (h : Rd W b s i n) (m : Nat) : Rd (W.drewN m) b s i n := h
/-- The same reader, at another place; nothing else that was there has turned. -/
def St (W : World) (b : Nat) (s : ByteArray) (w' : World) (i n : Nat) : Prop := Rd w' b s i n ∧ Gr (fun k => k = b) W w'
theorem St.trans {b : Nat} {s : ByteArray} {i n i' n' : Nat} (h : St W b s W1 i n) (k : St W1 b s W' i' n') : St W b s W' i' n' := ⟨k.1, h.2.trans k.2⟩

theorem drewN_drewN (W : World) (a b : Nat) : (W.drewN a).drewN b = W.drewN (a + b) := by
  simp [World.drewN, Nat.add_assoc]
set_option maxRecDepth 20000 in
set_option maxHeartbeats 400000 in
theorem peek_q (W : World) (b : Nat) (s : ByteArray) (i n : Nat) (h : Rd W b s i n) (hi : i ≤ s.size) :
    Calls Tryz.prog 62 #[pt b] W fun e w' => e = .returned (.int .u8 (pk s i)) ∧ ∃ m, w' = W.drewN m := by
  obtain ⟨c0, c1, c2, f0, f1, f2⟩ := h.facts
  by_cases hlt : i < s.size
  · have h1 : ((i : Int) == (s.size : Int)) = false := beq_eq_false_iff_ne.2 (by omega)
    have hx := ix s i hlt
    rw [show pk s i = bt s i by simp [pk, hlt]]
    go_enter Tryz.func62, Tryz.ntmps62
    go_wp2
    go_quiet (fail)
    go_wp2
    go_quiet (fail)
    go_wp2
    go_ret
    exact ⟨rfl, _, drewN_drewN _ _ _⟩
  · obtain rfl : i = s.size := by omega
    rw [show pk s s.size = 0 by simp [pk]]
    go_enter Tryz.func62, Tryz.ntmps62
    go_wp2
    go_quiet (fail)
    go_wp2
    go_ret
    exact ⟨rfl, _, rfl⟩
theorem peek_c (W : World) (b : Nat) (s : ByteArray) (i n : Nat) (h : Rd W b s i n) (hi : i ≤ s.size) :
    Calls Tryz.prog 62 #[pt b] W fun e w' => e = .returned (.int .u8 (pk s i)) ∧ St W b s w' i n := by
  refine (peek_q W b s i n h hi).mono ?_
  rintro e w' ⟨rfl, m, rfl⟩
  exact ⟨rfl, h.drewN m, Gr.drewN W m _⟩

def dig (c : Int) : Bool := decide (48 ≤ c) && decide (c ≤ 57)
def low (c : Int) : Bool := decide (97 ≤ c) && decide (c ≤ 122)
def inN (c : Int) : Bool := low c || (decide (65 ≤ c) && decide (c ≤ 90)) || dig c || (c == 95)
def shw (c : Int) : Bool := decide (32 ≤ c) && decide (c ≤ 126)

theorem digit_c (c : Int) (w : World) : Calls Tryz.prog 91 #[.int .u8 c] w fun e w' => e = .returned (.bool (dig c)) ∧ w = w' := by
  by_cases h1 : 48 ≤ c <;> by_cases h2 : c ≤ 57 <;> simp only [dig, h1, h2, decide_true, decide_false, Bool.and_true, Bool.and_false, Bool.false_and, Bool.true_and]
  all_goals (go_enter Tryz.func91, Tryz.ntmps91; go_wp2; go_ret; exact ⟨rfl, rfl⟩)
theorem lower_c (c : Int) (w : World) : Calls Tryz.prog 93 #[.int .u8 c] w fun e w' => e = .returned (.bool (low c)) ∧ w = w' := by
  by_cases h1 : 97 ≤ c <;> by_cases h2 : c ≤ 122 <;> simp only [low, h1, h2, decide_true, decide_false, Bool.and_true, Bool.and_false, Bool.false_and, Bool.true_and]
  all_goals (go_enter Tryz.func93, Tryz.ntmps93; go_wp2; go_ret; exact ⟨rfl, rfl⟩)
theorem shown_c (c : Int) (w : World) : Calls Tryz.prog 73 #[.int .u8 c] w fun e w' => e = .returned (.bool (shw c)) ∧ w = w' := by
  by_cases h1 : 32 ≤ c <;> by_cases h2 : c ≤ 126 <;> simp only [shw, h1, h2, decide_true, decide_false, Bool.and_true, Bool.and_false, Bool.false_and, Bool.true_and]
  all_goals (go_enter Tryz.func73, Tryz.ntmps73; go_wp2; go_ret; exact ⟨rfl, rfl⟩)
set_option maxHeartbeats 800000 in
theorem inName_c (c : Int) (w : World) : Calls Tryz.prog 114 #[.int .u8 c] w fun e w' => e = .returned (.bool (inN c)) ∧ w = w' := by
  go_enter Tryz.func114, Tryz.ntmps114
  go_wp2_with (first | (go_at_call 93; refine (lower_c _ _).mono ?_; rintro e w' ⟨rfl, rfl⟩) | (go_at_call 91; refine (digit_c _ _).mono ?_; rintro e w' ⟨rfl, rfl⟩))
  all_goals (go_ret; refine ⟨congrArg (fun b => Ending.returned (Value.bool b)) ?_, rfl⟩; rw [Bool.eq_iff_iff]; simp [inN, dig, low] at *; try omega)

/-- What is thrown: the place and the error. -/
abbrev flt (i : Nat) (e : Int) : Value := .agg #[.int .i64 (i : Int), .int .i64 e]
theorem misplaced_c (W : World) (b : Nat) (s : ByteArray) (i n : Nat) (h : Rd W b s i n) :
    Calls Tryz.prog 89 #[pt b] W fun e w' => e = .returned (flt i 41) ∧ St W b s w' i n := by
  obtain ⟨c0, c1, c2, f0, f1, f2⟩ := h.facts
  have hb := h.lt
  go_enter Tryz.func89, Tryz.ntmps89
  go_wp2
  exact bodyPost_ret (v := flt i 41) (by simp [results, Tryz.results89, go_sem]) rfl ⟨rfl, h.gr (Gr.alloc _ _ (fun _ => False)) (fun e => e), Gr.alloc _ _ _⟩
/-- The end of a call that gives up. -/
abbrev gives (i : Nat) (e : Int) : Ending := .panicked [{ v := .iface 47 (flt i e), recovered := false }]
set_option maxRecDepth 20000 in
set_option maxHeartbeats 400000 in
theorem begin_ok (W : World) (b : Nat) (s : ByteArray) (i n : Nat) (d : Int) (h : Rd W b s i n) (hn : n < 4096) (hd : d ≤ 24) :
    Calls Tryz.prog 61 #[pt b, .int .i64 d] W fun e w' => e = .returned (.tuple #[]) ∧ St W b s w' i (n + 1) := by
  obtain ⟨c0, c1, c2, f0, f1, f2⟩ := h.facts
  have hb := h.lt
  have hf : ∀ w', (e : Ending) → w' = W.setCell ⟨b, 2, none⟩ (.int .i64 (n + 1 : Int)) → St W b s w' i (n + 1) := fun w' _ e => by
    subst e; exact ⟨h.setSz (n + 1), Gr.set _ _ _ rfl⟩
  go_enter Tryz.func61, Tryz.ntmps61
  go_wp2
  go_end0
  exact ⟨rfl, hf _ (.outgrown) rfl⟩
set_option maxRecDepth 20000 in
set_option maxHeartbeats 400000 in
theorem begin_full (W : World) (b : Nat) (s : ByteArray) (i n : Nat) (d : Int) (h : Rd W b s i n) (hn : 4096 ≤ n) (hn2 : n < 1000000) (hd : d ≤ 24) :
    Calls Tryz.prog 61 #[pt b, .int .i64 d] W fun e w' => e = gives i 21 ∧ Gr (fun k => k = b) W w' := by
  obtain ⟨c0, c1, c2, f0, f1, f2⟩ := h.facts
  have hb := h.lt
  go_enter Tryz.func61, Tryz.ntmps61
  go_wp2
  exact ⟨rfl, rfl, Gr.set _ _ _ rfl⟩
set_option maxRecDepth 20000 in
set_option maxHeartbeats 400000 in
theorem begin_deep (W : World) (b : Nat) (s : ByteArray) (i n : Nat) (d : Int) (h : Rd W b s i n) (hd : 24 < d) :
    Calls Tryz.prog 61 #[pt b, .int .i64 d] W fun e w' => e = gives i 20 ∧ Gr (fun k => k = b) W w' := by
  obtain ⟨c0, c1, c2, f0, f1, f2⟩ := h.facts
  have hb := h.lt
  go_enter Tryz.func61, Tryz.ntmps61
  go_wp2
  exact ⟨rfl, rfl, Gr.refl _ _⟩
end Go.Proofs.YtdmichjhmfinpaaGreatDoor
