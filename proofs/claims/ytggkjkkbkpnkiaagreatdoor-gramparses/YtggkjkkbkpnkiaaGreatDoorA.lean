/-
  Carried over from another seat of ours (A).
  Carried over from another seat of ours (B).
-/
import Derived.Test.YtggkjkkbkpnkiaaGreatDoorProg
import Derived.WalkKit
import Derived.WalkLawsBesides
import Derived.ProofKit
import Derived.Deep.Light
import Derived.WalkSpells
import Derived.Lib.Strings
import Derived.Lib.Hide
import Derived.Deep.QuietTactic
import Derived.BigQuiet
import Derived.Lib.Bytealg
import Derived.Laws.Externs
set_option linter.unusedVariables false
set_option linter.unusedSimpArgs false
namespace Go.Proofs.YtggkjkkbkpnkiaaGreatDoor
open Go.RowKit

def bt (s : ByteArray) (k : Nat) : Int := ((s.data[k]?.getD 0).toNat : Int)
theorem bt_nonneg (s : ByteArray) (k : Nat) : 0 ≤ bt s k := Int.natCast_nonneg _
theorem bt_lt (s : ByteArray) (k : Nat) : bt s k < 256 := by
  have : (s.data[k]?.getD 0).toNat < 256 := UInt8.toNat_lt _
  unfold bt; omega

/-! ### Worlds -/
/-- From W to W' only blocks of S and new ones have turned. -/
structure Gr (S : Nat → Prop) (W W' : World) : Prop where
  os : W'.os = W.os
  tape : W'.tape = W.tape
  output : W'.output = W.output
  size : W.heap.size ≤ W'.heap.size
  block : ∀ k, k < W.heap.size → ¬ S k → W'.heap[k]? = W.heap[k]?
variable {S S' : Nat → Prop} {W W1 W' : World}
theorem Gr.refl (S : Nat → Prop) (W : World) : Gr S W W := ⟨rfl, rfl, rfl, Nat.le_refl _, fun _ _ _ => rfl⟩
theorem Gr.trans' (h : Gr S W W1) (k : Gr S' W1 W') (hs : ∀ i, i < W.heap.size → S' i → S i) : Gr S W W' :=
  ⟨k.os.trans h.os, k.tape.trans h.tape, k.output.trans h.output, Nat.le_trans h.size k.size,
   fun i hi hn => (k.block i (Nat.lt_of_lt_of_le hi h.size) (fun e => hn (hs i hi e))).trans (h.block i hi hn)⟩
theorem Gr.trans (h : Gr S W W1) (k : Gr S W1 W') : Gr S W W' := h.trans' k (fun _ _ e => e)
theorem Gr.mono (h : Gr S W W') (hs : ∀ i, i < W.heap.size → S i → S' i) : Gr S' W W' :=
  ⟨h.os, h.tape, h.output, h.size, fun i hi hn => h.block i hi (fun e => hn (hs i hi e))⟩
theorem Gr.of_below (h : Below W.heap.size W W') (S : Nat → Prop) : Gr S W W' := ⟨h.os, h.tape, h.output, h.size, fun k hk _ => h.block k hk⟩
theorem Gr.of_grown {row : Option Nat} (h : W.grownBy W' row) (hr : ∀ k, row = some k → S k) : Gr S W W' :=
  ⟨h.os, h.tape, h.output, h.size, fun k hk hn => h.block k hk (fun e => hn (hr k e.symm))⟩
theorem Gr.alloc (W : World) (o : Obj) (S : Nat → Prop) : Gr S W (W.alloc o) := .of_below ((Below.refl _ W).alloc (Nat.le_refl _) o) S
theorem Gr.set (W : World) (p : Addr) (v : Value) (h : S p.block) : Gr S W (W.setCell p v) :=
  ⟨rfl, rfl, rfl, by simp, fun k _ hn => heap_setCell_other W p k v (fun e => hn (e ▸ h))⟩
theorem Gr.drew (W : World) (S : Nat → Prop) : Gr S W W.drew := .of_below ((Below.refl _ W).drew) S
theorem Gr.drewN (W : World) (m : Nat) (S : Nat → Prop) : Gr S W (W.drewN m) := ⟨rfl, rfl, rfl, Nat.le_refl _, fun _ _ _ => rfl⟩
/-- Nothing that was there has turned: then it is so whatever may turn. -/
theorem Gr.any (h : Gr (fun _ => False) W W') (S : Nat → Prop) : Gr S W W' := h.mono (fun _ _ e => e.elim)
theorem Gr.keep (g : Gr S W W') {b : Nat} {o : Obj} (h : W.heap[b]? = some o) (hs : ¬ S b) : W'.heap[b]? = some o := (g.block b (Array.getElem?_eq_some_iff.1 h).1 hs).trans h

abbrev pt (b : Nat) : Value := .pointer (some ⟨b, 0, none⟩)

/-- A reader in memory: the text, the place. -/
def Rd (W : World) (b : Nat) (s : ByteArray) (i : Nat) : Prop := W.heap[b]? = some (.cells #[.string s, .int .i64 (i : Int)] 50 (0, 0))
theorem Rd.facts {b : Nat} {s : ByteArray} {i : Nat} (h : Rd W b s i) :
    W.cell? ⟨b, 0, none⟩ = some (.string s) ∧ W.cell? ⟨b, 1, none⟩ = some (.int .i64 (i : Int)) ∧
    W.frozen? ⟨b, 0, none⟩ = false ∧ W.frozen? ⟨b, 1, none⟩ = false := by
  unfold Rd at h
  simp [World.cell?, World.frozen?, h]
theorem Rd.lt {b : Nat} {s : ByteArray} {i : Nat} (h : Rd W b s i) : b < W.heap.size := (Array.getElem?_eq_some_iff.1 h).1
theorem Rd.gr {b : Nat} {s : ByteArray} {i : Nat} (h : Rd W b s i) (g : Gr S W W') (hs : ¬ S b) : Rd W' b s i := (g.block b h.lt hs).trans h
theorem Rd.setAt {b : Nat} {s : ByteArray} {i : Nat} (h : Rd W b s i) (j : Nat) : Rd (W.setCell ⟨b, 1, none⟩ (.int .i64 (j : Int))) b s j := heap_setCell_same W b 1 _ 50 _ h

/-- The byte at a place; at the end 0. -/
def pk (s : ByteArray) (i : Nat) : Int := if i < s.size then bt s i else 0
theorem pk_nonneg (s : ByteArray) (k : Nat) : 0 ≤ pk s k := by unfold pk; split; exact bt_nonneg s k; decide
theorem pk_lt (s : ByteArray) (k : Nat) : pk s k < 256 := by unfold pk; split; exact bt_lt s k; decide
theorem lt_of_pk {s : ByteArray} {i : Nat} (h : pk s i ≠ 0) : i < s.size := by
  unfold pk at h; split at h
  · assumption
  · exact absurd rfl h

theorem ix (s : ByteArray) (k : Nat) (h : k < s.size) (w : World) : (Instr.index 9 (.string s) (.int .i64 (k : Int))).run Tryz.prog w = .ok (.int .u8 (bt s k)) w := by
  rw [run_index_string w 9 s .i64 k (by kernel_rfl), dif_pos ⟨by omega, by omega⟩]
  have h2 : k < s.data.size := h
  have e : s[k]? = some s[k] := ByteArray.getElem?_lt' s k h
  simp only [bt, Int.toNat_natCast, Array.getElem?_eq_getElem h2, Option.getD_some]
  rfl

theorem Rd.drewN {b : Nat} {s : ByteArray} {i : Nat} (h : Rd W b s i) (m : Nat) : Rd (W.drewN m) b s i := h
/-- The same reader, at another place; nothing else that was there has turned. -/
def St (W : World) (b : Nat) (s : ByteArray) (w' : World) (i : Nat) : Prop := Rd w' b s i ∧ Gr (fun k => k = b) W w'
theorem St.trans {b : Nat} {s : ByteArray} {i i' : Nat} (h : St W b s W1 i) (k : St W1 b s W' i') : St W b s W' i' := ⟨k.1, h.2.trans k.2⟩
theorem St.set {b : Nat} {s : ByteArray} {i : Nat} (h : St W b s W1 i) (j : Nat) : St W b s (W1.setCell ⟨b, 1, none⟩ (.int .i64 (j : Int))) j := ⟨h.1.setAt j, h.2.trans (Gr.set _ _ _ rfl)⟩

theorem drewN_drewN (W : World) (a b : Nat) : (W.drewN a).drewN b = W.drewN (a + b) := by
  simp [World.drewN, Nat.add_assoc]
set_option maxRecDepth 20000 in
set_option maxHeartbeats 400000 in
theorem peek_q (W : World) (b : Nat) (s : ByteArray) (i : Nat) (h : Rd W b s i) :
    Calls Tryz.prog 25 #[pt b] W fun e w' => e = .returned (.int .u8 (pk s i)) ∧ ∃ m, w' = W.drewN m := by
  obtain ⟨c0, c1, f0, f1⟩ := h.facts
  by_cases hlt : i < s.size
  · have h1 : decide ((i : Int) < (s.size : Int)) = true := by simp; omega
    have hx := ix s i hlt
    rw [show pk s i = bt s i by simp [pk, hlt]]
    go_enter Tryz.func25, Tryz.ntmps25
    go_wp2
    go_quiet (fail)
    go_wp2
    go_quiet (fail)
    go_wp2
    go_ret
    exact ⟨rfl, _, drewN_drewN _ _ _⟩
  · have h1 : decide ((i : Int) < (s.size : Int)) = false := by simp; omega
    rw [show pk s i = 0 by simp [pk, hlt]]
    go_enter Tryz.func25, Tryz.ntmps25
    go_wp2
    go_quiet (fail)
    go_wp2
    go_ret
    exact ⟨rfl, _, rfl⟩
theorem peek_c (W : World) (b : Nat) (s : ByteArray) (i : Nat) (h : Rd W b s i) :
    Calls Tryz.prog 25 #[pt b] W fun e w' => e = .returned (.int .u8 (pk s i)) ∧ St W b s w' i := by
  refine (peek_q W b s i h).mono ?_
  rintro e w' ⟨rfl, m, rfl⟩
  exact ⟨rfl, h.drewN m, Gr.drewN W m _⟩
set_option maxRecDepth 20000 in
set_option maxHeartbeats 400000 in
theorem next_c (W : World) (b : Nat) (s : ByteArray) (i : Nat) (h : Rd W b s i) (hi : i ≤ 70000) :
    Calls Tryz.prog 56 #[pt b] W fun e w' => e = .returned (.int .u8 (pk s i)) ∧ St W b s w' (i + 1) := by
  have hi2 : (i : Int) ≤ 70000 := by omega
  clear hi
  go_enter Tryz.func56, Tryz.ntmps56
  go_wp2_with fail
  refine (peek_c W b s i h).mono ?_
  rintro e w1 ⟨rfl, hs1⟩
  obtain ⟨c0, c1, f0, f1⟩ := hs1.1.facts
  go_wp2_with fail
  go_ret
  exact ⟨rfl, hs1.set (i + 1)⟩

def dig (c : Int) : Bool := decide (48 ≤ c) && decide (c ≤ 57)
def low (c : Int) : Bool := decide (97 ≤ c) && decide (c ≤ 122)
def vab (c : Int) : Bool := (decide (65 ≤ c) && decide (c ≤ 90)) || (c == 95)
def inN (c : Int) : Bool := low c || vab c || dig c
def shw (c : Int) : Bool := decide (32 ≤ c) && decide (c ≤ 126)
def blk (c : Int) : Bool := (c == 32) || (c == 9) || (c == 10) || (c == 13)

theorem digit_c (c : Int) (w : World) : Calls Tryz.prog 26 #[.int .u8 c] w fun e w' => e = .returned (.bool (dig c)) ∧ w = w' := by
  by_cases h1 : 48 ≤ c <;> by_cases h2 : c ≤ 57 <;> simp only [dig, h1, h2, decide_true, decide_false, Bool.and_true, Bool.and_false, Bool.false_and, Bool.true_and]
  all_goals (go_enter Tryz.func26, Tryz.ntmps26; go_wp2; go_ret; exact ⟨rfl, rfl⟩)
theorem lower_c (c : Int) (w : World) : Calls Tryz.prog 29 #[.int .u8 c] w fun e w' => e = .returned (.bool (low c)) ∧ w = w' := by
  by_cases h1 : 97 ≤ c <;> by_cases h2 : c ≤ 122 <;> simp only [low, h1, h2, decide_true, decide_false, Bool.and_true, Bool.and_false, Bool.false_and, Bool.true_and]
  all_goals (go_enter Tryz.func29, Tryz.ntmps29; go_wp2; go_ret; exact ⟨rfl, rfl⟩)
theorem shown_c (c : Int) (w : World) : Calls Tryz.prog 58 #[.int .u8 c] w fun e w' => e = .returned (.bool (shw c)) ∧ w = w' := by
  by_cases h1 : 32 ≤ c <;> by_cases h2 : c ≤ 126 <;> simp only [shw, h1, h2, decide_true, decide_false, Bool.and_true, Bool.and_false, Bool.false_and, Bool.true_and]
  all_goals (go_enter Tryz.func58, Tryz.ntmps58; go_wp2; go_ret; exact ⟨rfl, rfl⟩)
theorem variable_c (c : Int) (w : World) : Calls Tryz.prog 30 #[.int .u8 c] w fun e w' => e = .returned (.bool (vab c)) ∧ w = w' := by
  by_cases h1 : 65 ≤ c <;> by_cases h2 : c ≤ 90 <;> cases h3 : (c == 95) <;> simp only [vab, h1, h2, h3, decide_true, decide_false, Bool.and_true, Bool.and_false, Bool.false_and, Bool.true_and, Bool.or_true, Bool.or_false, Bool.false_or, Bool.true_or]
  all_goals (go_enter Tryz.func30, Tryz.ntmps30; go_wp2; go_ret; exact ⟨rfl, rfl⟩)
theorem blank_c (c : Int) (w : World) : Calls Tryz.prog 24 #[.int .u8 c] w fun e w' => e = .returned (.bool (blk c)) ∧ w = w' := by
  cases h1 : (c == 32) <;> cases h2 : (c == 9) <;> cases h3 : (c == 10) <;> cases h4 : (c == 13) <;> simp only [blk, h1, h2, h3, h4, Bool.or_true, Bool.or_false, Bool.false_or, Bool.true_or]
  all_goals (go_enter Tryz.func24, Tryz.ntmps24; go_wp2; go_ret; exact ⟨rfl, rfl⟩)
set_option maxHeartbeats 800000 in
theorem inName_c (c : Int) (w : World) : Calls Tryz.prog 42 #[.int .u8 c] w fun e w' => e = .returned (.bool (inN c)) ∧ w = w' := by
  cases h1 : low c <;> cases h2 : vab c <;> cases h3 : dig c <;> simp only [inN, h1, h2, h3, Bool.or_true, Bool.or_false, Bool.false_or, Bool.true_or]
  all_goals
    go_enter Tryz.func42, Tryz.ntmps42
    go_wp2_with (first | (go_at_call 29; refine (lower_c _ _).mono ?_; rintro e w' ⟨rfl, rfl⟩) | (go_at_call 26; refine (digit_c _ _).mono ?_; rintro e w' ⟨rfl, rfl⟩) | (go_at_call 30; refine (variable_c _ _).mono ?_; rintro e w' ⟨rfl, rfl⟩))
    go_ret
    exact ⟨rfl, rfl⟩
end Go.Proofs.YtggkjkkbkpnkiaaGreatDoor




namespace Go.Proofs.YtggkjkkbkpnkiaaGreatDoor
open Go.RowKit

/-- The value of a digit of base 16; -1 of any other byte. -/
def hexv (c : Int) : Int := if 48 ≤ c ∧ c ≤ 57 then c - 48 else if 97 ≤ c ∧ c ≤ 102 then c - 87 else -1
/-- The place of an escape's letter among n, t, \ and the quote; -1 of any other byte. -/
def esci (c : Int) : Int := if c = 110 then 0 else if c = 116 then 1 else if c = 92 then 2 else if c = 34 then 3 else -1
abbrev d16 : ByteArray := ⟨#[48, 49, 50, 51, 52, 53, 54, 55, 56, 57, 97, 98, 99, 100, 101, 102]⟩
abbrev eIn : ByteArray := ⟨#[110, 116, 92, 34]⟩
abbrev eOut : ByteArray := ⟨#[10, 9, 92, 34]⟩
theorem hexIdx : ∀ c : Fin 256, Lib.indexByte [48, 49, 50, 51, 52, 53, 54, 55, 56, 57, 97, 98, 99, 100, 101, 102] (c : Nat).toUInt8 = hexv (c : Nat) := by decide +kernel
theorem escIdx : ∀ c : Fin 256, Lib.indexByte [110, 116, 92, 34] (c : Nat).toUInt8 = esci (c : Nat) := by decide +kernel
theorem cf61 (t : ByteArray) (l : List UInt8) (ht : t.data.toList = l) (c v : Int) (h0 : 0 ≤ c) (h1 : c < 256) (h : Lib.indexByte l (c.toNat).toUInt8 = v) (w : World) : (callFunc 86 #[.string t, .int .u8 c]).run Tryz.prog w = .ok (Next.value (.int .i64 v)) w := by
  rw [run_callFunc_extern (e := Extern.BytealgIndexByte.indexByte) Tryz.func86 (by kernel_rfl) (by kernel_rfl) (by kernel_rfl) (by kernel_rfl), Lib.run_indexByteString]
  rw [ht]
  have e : (UInt8.ofNat c.toNat) = (c.toNat).toUInt8 := rfl
  rw [← h]
  rfl
theorem idx_c (t : ByteArray) (l : List UInt8) (ht : t.data.toList = l) (c v : Int) (h0 : 0 ≤ c) (h1 : c < 256) (h : Lib.indexByte l (c.toNat).toUInt8 = v) (w : World) : Calls Tryz.prog 69 #[.string t, .int .u8 c] w fun e w' => e = .returned (.int .i64 v) ∧ w = w' := by
  have hx := cf61 t l ht c v h0 h1 h
  clear h ht
  go_enter Tryz.func69, Tryz.ntmps69
  go_wp2_with (first | (go_at_call 79; go_in))
  go_ret
  exact ⟨rfl, rfl⟩
theorem hexidx_c (c : Int) (h0 : 0 ≤ c) (h1 : c < 256) (w : World) : Calls Tryz.prog 69 #[.string d16, .int .u8 c] w fun e w' => e = .returned (.int .i64 (hexv c)) ∧ w = w' := by
  have h := hexIdx ⟨c.toNat, by omega⟩
  exact idx_c d16 _ rfl c _ h0 h1 (by rw [h]; simp only [Int.toNat_of_nonneg h0]) w
theorem escidx_c (c : Int) (h0 : 0 ≤ c) (h1 : c < 256) (w : World) : Calls Tryz.prog 69 #[.string eIn, .int .u8 c] w fun e w' => e = .returned (.int .i64 (esci c)) ∧ w = w' := by
  have h := escIdx ⟨c.toNat, by omega⟩
  exact idx_c eIn _ rfl c _ h0 h1 (by rw [h]; simp only [Int.toNat_of_nonneg h0]) w
theorem hexv_lt (c : Int) : hexv c < 16 := by unfold hexv; split; omega; split <;> omega
theorem hexv_ge (c : Int) : -1 ≤ hexv c := by unfold hexv; split; omega; split <;> omega
theorem lt_of_hexv {s : ByteArray} {i : Nat} (h : 0 ≤ hexv (pk s i)) : i < s.size := lt_of_pk (fun e => by rw [e] at h; exact absurd h (by decide))

theorem orv : ∀ v x : Fin 16, bits .or .i64 ((v : Nat) * 16 : Int) (x : Nat) = (v : Nat) * 16 + (x : Nat) := by decide +kernel
theorem orv' (v x : Int) (h0 : 0 ≤ v) (h1 : v < 16) (k0 : 0 ≤ x) (k1 : x < 16) : bits .or .i64 (v * 16) x = v * 16 + x := by
  have h := orv ⟨v.toNat, by omega⟩ ⟨x.toNat, by omega⟩
  simp only [Int.toNat_of_nonneg h0, Int.toNat_of_nonneg k0] at h
  exact h

/-- What an escape stands for whose letter stands at i, and the place behind it. -/
def esc (s : ByteArray) (i : Nat) : Option (Int × Nat) :=
  if pk s i = 110 then some (10, i + 1) else if pk s i = 116 then some (9, i + 1) else if pk s i = 92 then some (92, i + 1) else if pk s i = 34 then some (34, i + 1)
  else if pk s i = 120 then (if 0 ≤ hexv (pk s (i + 1)) ∧ 0 ≤ hexv (pk s (i + 2)) then some (hexv (pk s (i + 1)) * 16 + hexv (pk s (i + 2)), i + 3) else none) else none
/-- One byte within quotes. -/
def one (s : ByteArray) (i : Nat) : Option (Int × Nat) :=
  if pk s i = 92 then esc s (i + 1) else if shw (pk s i) = true then some (pk s i, i + 1) else none

/-- How a step ends that reads one byte's value. -/
def End8 (W : World) (b : Nat) (s : ByteArray) (e : Ending) (w' : World) : Option (Int × Nat) → Prop
  | some (c, j) => e = .returned (.tuple #[.int .u8 c, .bool true]) ∧ St W b s w' j
  | none => (∃ c, e = .returned (.tuple #[.int .u8 c, .bool false])) ∧ Gr (fun k => k = b) W w'

theorem exo (k : Nat) (h : k < 4) (c : Int) (hc : (match k with | 0 => 10 | 1 => 9 | 2 => 92 | _ => 34 : Int) = c) (w : World) : (Instr.index 9 (.string eOut) (.int .i64 (k : Int))).run Tryz.prog w = .ok (.int .u8 c) w := by
  rw [ix eOut k h]
  rw [← hc]
  match k, h with
  | 0, _ => rfl
  | 1, _ => rfl
  | 2, _ => rfl
  | 3, _ => rfl

set_option maxRecDepth 20000 in
set_option maxHeartbeats 1600000 in
theorem escape_c (W : World) (b : Nat) (s : ByteArray) (i : Nat) (h : Rd W b s i) (hi : i ≤ 65536) :
    Calls Tryz.prog 57 #[pt b] W fun e w' => End8 W b s e w' (esc s i) := by
  have hp0 := pk_nonneg s i
  have hp1 := pk_lt s i
  obtain ⟨c, hc⟩ : ∃ c, pk s i = c := ⟨_, rfl⟩
  have hp := fun W h => next_c W b s i h (by omega)
  rw [hc] at hp hp0 hp1
  have he := fun w => escidx_c c hp0 hp1 w
  have x0 := exo 0 (by decide) 10 rfl
  have x1 := exo 1 (by decide) 9 rfl
  have x2 := exo 2 (by decide) 92 rfl
  have x3 := exo 3 (by decide) 34 rfl
  by_cases h0 : c = 110 ∨ c = 116 ∨ c = 92 ∨ c = 34
  · rw [esc, hc]
    clear hc
    rcases h0 with rfl | rfl | rfl | rfl
    all_goals
      simp (config := { decide := true }) only [if_true, if_false]
      simp (config := { decide := true }) only [esci, if_true, if_false] at he
      go_enter Tryz.func57, Tryz.ntmps57
      go_wp2_with fail
      refine (hp _ h).mono ?_
      rintro e w1 ⟨rfl, hs1⟩
      go_wp2_with fail
      refine (he _).mono ?_
      rintro e w2 ⟨rfl, rfl⟩
      go_wp2_with fail
      go_ret2
      exact ⟨rfl, hs1⟩
  have n0 : ¬ c = 110 := fun e => h0 (.inl e)
  have n1 : ¬ c = 116 := fun e => h0 (.inr (.inl e))
  have n2 : ¬ c = 92 := fun e => h0 (.inr (.inr (.inl e)))
  have n3 : ¬ c = 34 := fun e => h0 (.inr (.inr (.inr e)))
  have hm : esci c = -1 := by simp only [esci, n0, n1, n2, n3, if_false]
  rw [hm] at he
  by_cases h1 : c = 120
  · obtain ⟨v, hv⟩ : ∃ v, hexv (pk s (i + 1)) = v := ⟨_, rfl⟩
    obtain ⟨x, hx⟩ : ∃ x, hexv (pk s (i + 2)) = x := ⟨_, rfl⟩
    have hr : esc s i = if 0 ≤ v ∧ 0 ≤ x then some (v * 16 + x, i + 3) else none := by
      rw [esc, hc, hv, hx, if_neg n0, if_neg n1, if_neg n2, if_neg n3, if_pos h1]
    have hv1 : v < 16 := hv ▸ hexv_lt _
    have hv0 : -1 ≤ v := hv ▸ hexv_ge _
    have hx1 : x < 16 := hx ▸ hexv_lt _
    have hx0 : -1 ≤ x := hx ▸ hexv_ge _
    have hd1 := fun w => hexidx_c _ (pk_nonneg s (i + 1)) (pk_lt s (i + 1)) w
    have hd2 := fun w => hexidx_c _ (pk_nonneg s (i + 2)) (pk_lt s (i + 2)) w
    rw [hv] at hd1
    rw [hx] at hd2
    have hn1 := fun W h => next_c W b s (i + 1) h (by omega)
    have hn2 := fun W h => next_c W b s (i + 1 + 1) h (by omega)
    rw [hr]
    clear hr hc hv hx n0 n1 n2 n3 h0 hm
    subst h1
    have ho : 0 ≤ v → 0 ≤ x → bits .or .i64 (v * 16) x = v * 16 + x := fun h2 h3 => orv' v x h2 hv1 h3 hx1
    by_cases h2 : 0 ≤ v <;> by_cases h3 : 0 ≤ x
    · have e3 := ho h2 h3
      rw [if_pos ⟨h2, h3⟩]
      clear ho
      go_enter Tryz.func57, Tryz.ntmps57
      go_wp2_with fail
      refine (hp _ h).mono ?_
      rintro e w1 ⟨rfl, hs1⟩
      go_wp2_with fail
      refine (he _).mono ?_
      rintro e w2 ⟨rfl, rfl⟩
      go_wp2_with fail
      refine (hn1 _ hs1.1).mono ?_
      rintro e w2 ⟨rfl, hs2⟩
      go_wp2_with fail
      refine (hd1 _).mono ?_
      rintro e w3 ⟨rfl, rfl⟩
      go_wp2_with fail
      refine (hn2 _ hs2.1).mono ?_
      rintro e w3 ⟨rfl, hs3⟩
      go_wp2_with fail
      refine (hd2 _).mono ?_
      rintro e w4 ⟨rfl, rfl⟩
      go_wp2_with fail
      go_ret2
      exact ⟨rfl, (hs1.trans hs2).trans hs3⟩
    all_goals
      rw [if_neg (fun e => by omega)]
      clear ho
      try have h2b : decide (0 ≤ v) = false := decide_eq_false h2
      try have h3b : decide (0 ≤ x) = false := decide_eq_false h3
      go_enter Tryz.func57, Tryz.ntmps57
      go_wp2_with fail
      refine (hp _ h).mono ?_
      rintro e w1 ⟨rfl, hs1⟩
      go_wp2_with fail
      refine (he _).mono ?_
      rintro e w2 ⟨rfl, rfl⟩
      go_wp2_with fail
      refine (hn1 _ hs1.1).mono ?_
      rintro e w2 ⟨rfl, hs2⟩
      go_wp2_with fail
      refine (hd1 _).mono ?_
      rintro e w3 ⟨rfl, rfl⟩
      go_wp2_with fail
      refine (hn2 _ hs2.1).mono ?_
      rintro e w3 ⟨rfl, hs3⟩
      go_wp2_with fail
      refine (hd2 _).mono ?_
      rintro e w4 ⟨rfl, rfl⟩
      go_wp2_with fail
      go_ret2
      exact ⟨⟨_, rfl⟩, ((hs1.trans hs2).trans hs3).2⟩
  · rw [show esc s i = none by rw [esc, hc]; simp only [n0, n1, n2, n3, h1, if_false]]
    have h1' : (c != 120) = true := by rw [bne_iff_ne]; exact h1
    clear hc n0 n1 n2 n3 h0 hm h1
    go_enter Tryz.func57, Tryz.ntmps57
    go_wp2_with fail
    refine (hp _ h).mono ?_
    rintro e w1 ⟨rfl, hs1⟩
    go_wp2_with fail
    refine (he _).mono ?_
    rintro e w2 ⟨rfl, rfl⟩
    go_wp2_with fail
    go_ret2
    exact ⟨⟨_, rfl⟩, hs1.2⟩

set_option maxRecDepth 20000 in
set_option maxHeartbeats 1600000 in
theorem oneByte_c (W : World) (b : Nat) (s : ByteArray) (i : Nat) (h : Rd W b s i) (hi : i ≤ 65000) :
    Calls Tryz.prog 43 #[pt b] W fun e w' => End8 W b s e w' (one s i) := by
  have hn := fun W h => next_c W b s i h (by omega)
  have he := fun W h => escape_c W b s (i + 1) h (by omega)
  unfold one
  generalize pk s i = c at hn ⊢
  by_cases h1 : c = 92
  · rw [if_pos h1]
    subst h1
    generalize esc s (i + 1) = r at he ⊢
    rcases r with _ | ⟨x, j⟩
    · simp only [End8] at he ⊢
      go_enter Tryz.func43, Tryz.ntmps43
      go_wp2_with fail
      refine (hn _ h).mono ?_
      rintro e w1 ⟨rfl, hs1⟩
      go_wp2_with fail
      refine (he _ hs1.1).mono ?_
      rintro e w2 ⟨⟨x, rfl⟩, hg2⟩
      go_wp2_with fail
      go_ret2
      exact ⟨⟨x, rfl⟩, hs1.2.trans hg2⟩
    · simp only [End8] at he ⊢
      go_enter Tryz.func43, Tryz.ntmps43
      go_wp2_with fail
      refine (hn _ h).mono ?_
      rintro e w1 ⟨rfl, hs1⟩
      go_wp2_with fail
      refine (he _ hs1.1).mono ?_
      rintro e w2 ⟨rfl, hs2⟩
      go_wp2_with fail
      go_ret2
      exact ⟨rfl, hs1.trans hs2⟩
  · rw [if_neg h1]
    have h1' : (c == 92) = false := by simpa using h1
    clear h1 he
    have hs := fun w => shown_c c w
    cases h2 : shw c
    · rw [h2] at hs
      rw [if_neg (by decide)]
      simp only [End8]
      clear h2
      go_enter Tryz.func43, Tryz.ntmps43
      go_wp2_with fail
      refine (hn _ h).mono ?_
      rintro e w1 ⟨rfl, hs1⟩
      go_wp2_with fail
      refine (hs _).mono ?_
      rintro e w2 ⟨rfl, rfl⟩
      go_wp2_with fail
      go_ret2
      exact ⟨⟨_, rfl⟩, hs1.2⟩
    · rw [h2] at hs
      rw [if_pos rfl]
      simp only [End8]
      clear h2
      go_enter Tryz.func43, Tryz.ntmps43
      go_wp2_with fail
      refine (hn _ h).mono ?_
      rintro e w1 ⟨rfl, hs1⟩
      go_wp2_with fail
      refine (hs _).mono ?_
      rintro e w2 ⟨rfl, rfl⟩
      go_wp2_with fail
      go_ret2
      exact ⟨rfl, hs1⟩
theorem one_ok {s : ByteArray} {i j : Nat} {c : Int} (h : one s i = some (c, j)) : i < j ∧ j ≤ s.size := by
  have hpk : ∀ {i : Nat} {x : Int}, pk s i = x → x ≠ 0 → i + 1 ≤ s.size := by
    intro i x h1 h2
    exact lt_of_pk (by rw [h1]; exact h2)
  have hesc : ∀ {i j : Nat} {c : Int}, esc s i = some (c, j) → i < j ∧ j ≤ s.size := by
    intro i j c h
    unfold esc at h
    split at h
    · cases h; rename_i h1; exact ⟨by omega, hpk h1 (by decide)⟩
    · split at h
      · cases h; rename_i h1; exact ⟨by omega, hpk h1 (by decide)⟩
      · split at h
        · cases h; rename_i h1; exact ⟨by omega, hpk h1 (by decide)⟩
        · split at h
          · cases h; rename_i h1; exact ⟨by omega, hpk h1 (by decide)⟩
          · split at h
            · split at h
              · cases h
                rename_i h2
                have := lt_of_hexv h2.2
                omega
              · cases h
            · cases h
  unfold one at h
  split at h
  · have := hesc h; omega
  · split at h
    · cases h
      rename_i h1
      refine ⟨by omega, lt_of_pk (fun e => ?_)⟩
      rw [e] at h1
      exact absurd h1 (by decide)
    · cases h
end Go.Proofs.YtggkjkkbkpnkiaaGreatDoor



