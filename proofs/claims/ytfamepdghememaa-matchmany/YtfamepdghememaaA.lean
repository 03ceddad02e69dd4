/-
  Carried over from another seat of ours (A).
  Carried over from another seat of ours (C).
  Carried over from another seat of ours (I).
  Carried over from another seat of ours (J).
-/
import Derived.Test.YtfamepdghememaaProg
import Derived.WalkKit
import Derived.WalkLawsBesides
import Derived.ProofKit
import Derived.Deep.Light
import Derived.WalkSpells
import Derived.Lib.Strings
import Derived.Lib.Hide
import Derived.Deep.QuietTactic
import Derived.BigQuiet
import Derived.Lib.Bytealg
import Derived.Laws.Externs
import Derived.Lib.Walk
import Derived.Lib.BufferWrite
import Derived.Lib.UnsafeStr
import Derived.Laws.MakeOwn
import Derived.Deep.RegionWith
import Derived.WideLaws
import Derived.Lib.ConvBytes
import Derived.Maps.AppendAt
import Derived.RegionTactic
import Derived.BigRegion
set_option linter.unusedVariables false
set_option linter.unusedSimpArgs false
namespace Go.Proofs.Ytfamepdghememaa
open Go.RowKit

@[go_sem] theorem st_complex (P : Program) (w : World) (a : Addr) (m : Mode) (k : FloatKind) (x y : Nat) : (store a (.complex k x y) m).run P w = stored P w a (.complex k x y) m := run_store P w a _ m rfl
@[go_sem] theorem st_float (P : Program) (w : World) (a : Addr) (m : Mode) (k : FloatKind) (x : Nat) : (store a (.float k x) m).run P w = stored P w a (.float k x) m := run_store P w a _ m rfl

def bt (s : ByteArray) (k : Nat) : Int := ((s.data[k]?.getD 0).toNat : Int)
/-! ### Worlds -/
/-- From W to W' only blocks of S and new ones have turned. -/
structure Gr (S : Nat → Prop) (W W' : World) : Prop where
  os : W'.os = W.os
  tape : W'.tape = W.tape
  output : W'.output = W.output
  size : W.heap.size ≤ W'.heap.size
  block : ∀ k, k < W.heap.size → ¬ S k → W'.heap[k]? = W.heap[k]?
variable {S S' : Nat → Prop} {W W1 W' : World}
theorem Gr.refl (S : Nat → Prop) (W : World) : Gr S W W := ⟨rfl, rfl, rfl, Nat.le_refl _, fun _ _ _ => rfl⟩
theorem Gr.trans' (h : Gr S W W1) (k : Gr S' W1 W') (hs : ∀ i, i < W.heap.size → S' i → S i) : Gr S W W' :=
  ⟨k.os.trans h.os, k.tape.trans h.tape, k.output.trans h.output, Nat.le_trans h.size k.size,
   fun i hi hn => (k.block i (Nat.lt_of_lt_of_le hi h.size) (fun e => hn (hs i hi e))).trans (h.block i hi hn)⟩
theorem Gr.trans (h : Gr S W W1) (k : Gr S W1 W') : Gr S W W' := h.trans' k (fun _ _ e => e)
theorem Gr.mono (h : Gr S W W') (hs : ∀ i, i < W.heap.size → S i → S' i) : Gr S' W W' :=
  ⟨h.os, h.tape, h.output, h.size, fun i hi hn => h.block i hi (fun e => hn (hs i hi e))⟩
theorem Gr.of_below (h : Below W.heap.size W W') (S : Nat → Prop) : Gr S W W' := ⟨h.os, h.tape, h.output, h.size, fun k hk _ => h.block k hk⟩
theorem Gr.of_grown {row : Option Nat} (h : W.grownBy W' row) (hr : ∀ k, row = some k → S k) : Gr S W W' :=
  ⟨h.os, h.tape, h.output, h.size, fun k hk hn => h.block k hk (fun e => hn (hr k e.symm))⟩
theorem Gr.alloc (W : World) (o : Obj) (S : Nat → Prop) : Gr S W (W.alloc o) := .of_below ((Below.refl _ W).alloc (Nat.le_refl _) o) S
theorem Gr.set (W : World) (p : Addr) (v : Value) (h : S p.block) : Gr S W (W.setCell p v) :=
  ⟨rfl, rfl, rfl, by simp, fun k _ hn => heap_setCell_other W p k v (fun e => hn (e ▸ h))⟩
theorem Gr.drew (W : World) (S : Nat → Prop) : Gr S W W.drew := .of_below ((Below.refl _ W).drew) S
abbrev pt (b : Nat) : Value := .pointer (some ⟨b, 0, none⟩)

theorem ix (s : ByteArray) (k : Nat) (h : k < s.size) (w : World) : (Instr.index 9 (.string s) (.int .i64 (k : Int))).run Try.prog w = .ok (.int .u8 (bt s k)) w := by
  rw [run_index_string w 9 s .i64 k (by kernel_rfl), dif_pos ⟨by omega, by omega⟩]
  have h2 : k < s.data.size := h
  have e : s[k]? = some s[k] := ByteArray.getElem?_lt' s k h
  simp only [bt, Int.toNat_natCast, Array.getElem?_eq_getElem h2, Option.getD_some]
  rfl

def dig (c : Int) : Bool := decide (48 ≤ c) && decide (c ≤ 57)
def low (c : Int) : Bool := decide (97 ≤ c) && decide (c ≤ 122)
def inN (c : Int) : Bool := low c || (decide (65 ≤ c) && decide (c ≤ 90)) || dig c || (c == 95)
end Go.Proofs.Ytfamepdghememaa




namespace Go.Proofs.Ytfamepdghememaa
open Go.RowKit

/-! ### A copy of a text -/
end Go.Proofs.Ytfamepdghememaa
/-
  The reader's complex numbers: twice sixteen digits of base 16.
-/
namespace Go.Proofs.Ytfamepdghememaa
open Go.RowKit

@[go_sem] theorem cf96 (x : Int) (w : World) : (callFunc 91 #[.int .u64 x]).run Try.prog w = .ok (Next.value (.float .f64 x.toNat)) w := by
  rw [run_callFunc_extern (e := Extern.MathFloatBits.float64frombits) Try.func91 (by kernel_rfl) (by kernel_rfl) (by kernel_rfl) (by kernel_rfl)]
  rfl

end Go.Proofs.Ytfamepdghememaa




namespace Go.Proofs.Ytfamepdghememaa
open Go.RowKit

theorem Gr.keep {S : Nat → Prop} {W W' : World} {g : Nat} {o : Obj} (k : Gr S W W') (h : W.heap[g]? = some o) (hs : ¬ S g) : W'.heap[g]? = some o :=
  (k.block g (Array.getElem?_eq_some_iff.1 h).1 hs).trans h

theorem Gr.setNew {S : Nat → Prop} {W W' : World} {p : Addr} {v : Value} (h : Gr S W W') (hp : W.heap.size ≤ p.block) : Gr S W (W'.setCell p v) :=
  ⟨h.os, h.tape, h.output, by rw [World.size_setCell]; exact h.size, fun k hk hn => (heap_setCell_other W' p k v (by omega)).trans (h.block k hk hn)⟩
end Go.Proofs.Ytfamepdghememaa




namespace Go.Proofs.Ytfamepdghememaa
open Go.RowKit Go.Maps

theorem ownsRow_of_block {W W' : World} {base : Nat} {e : TypeId} {size : Nat} {sv : Value} {n : Nat} {xs : List Value} (h : W.ownsRow base e size sv n xs) (hb : ∀ k, base ≤ k → sv.ownBlock = some k → W'.heap[k]? = W.heap[k]?) : W'.ownsRow base e size sv n xs := by
  refine ⟨h.1, ?_⟩
  rcases h.2 with h0 | ⟨g, cap, cur, rfl, hg, h2, h3⟩
  · exact .inl h0
  · exact .inr ⟨g, cap, cur, rfl, hg, (hb g hg rfl).trans h2, h3⟩
theorem ownsRow_lt {W : World} {base : Nat} {e : TypeId} {size : Nat} {sv : Value} {n : Nat} {xs : List Value} (h : W.ownsRow base e size sv n xs) (k : Nat) (hk : sv.ownBlock = some k) : base ≤ k ∧ k < W.heap.size := by
  rcases h.2 with ⟨rfl, _⟩ | ⟨g, cap, cur, rfl, hg, h2, h3⟩
  · cases hk
  · cases hk; exact ⟨hg, (Array.getElem?_eq_some_iff.1 h2).1⟩
theorem ownsRow_gr {S : Nat → Prop} {W W' : World} {base : Nat} {e : TypeId} {size : Nat} {sv : Value} {n : Nat} {xs : List Value} (h : W.ownsRow base e size sv n xs) (g : Gr S W W') (hs : ∀ k, base ≤ k → ¬ S k) : W'.ownsRow base e size sv n xs :=
  ownsRow_of_block h (fun k h1 h2 => g.block k (ownsRow_lt h k h2).2 (hs k h1))
theorem ownsRow_sv {W : World} {base : Nat} {e : TypeId} {size : Nat} {sv : Value} {n : Nat} {xs : List Value} (h : W.ownsRow base e size sv n xs) : ∃ a cap, sv = .slice a n cap := by
  rcases h.2 with ⟨rfl, rfl⟩ | ⟨g, cap, cur, rfl, hg, h2, h3⟩ <;> exact ⟨_, _, rfl⟩

end Go.Proofs.Ytfamepdghememaa
/-
  The table of kinds, and what is wrong with a term that has no elements.
-/
namespace Go.Proofs.Ytfamepdghememaa
open Go.RowKit Go.Maps
@[go_sem] theorem st_func (P : Program) (w : World) (a : Addr) (m : Mode) (fn : Fn) (x y : Array Value) : (store a (.func fn x y) m).run P w = stored P w a (.func fn x y) m := run_store P w a _ m rfl
@[go_sem] theorem st_nilFunc (P : Program) (w : World) (a : Addr) (m : Mode) : (store a .nilFunc m).run P w = stored P w a .nilFunc m := run_store P w a _ m rfl
abbrev fv (n : Nat) : Value := .func (.func n) #[] #[]
/-- The table of kinds in memory. -/
def Kd (W : World) (b : Nat) : Prop := W.heap[b]? = some (.cells #[.nilFunc, .nilFunc, .nilFunc, fv 42, fv 43, fv 44, fv 45, fv 43, fv 44, fv 46, fv 47, fv 48, fv 39, fv 40, fv 41, fv 39, fv 40, fv 41,
  fv 49, fv 50, .func (.func 51) #[pt b] #[], fv 49, fv 50, .func (.func 52) #[pt b] #[], fv 53, fv 50, fv 54] 86 (0, 0))
theorem Kd.gr {S : Nat → Prop} {W W' : World} {b : Nat} (h : Kd W b) (g : Gr S W W') (hs : ¬ S b) : Kd W' b := g.keep h hs
theorem Kd.lt {W : World} {b : Nat} (h : Kd W b) : b < W.heap.size := (Array.getElem?_eq_some_iff.1 h).1
/-- The row of a kind: what is left without its fields, whether its value may be. -/
theorem Kd.cells {W : World} {b : Nat} (h : Kd W b) :
    (W.cell? ⟨b, 3, none⟩ = some (fv 42) ∧ W.cell? ⟨b, 4, none⟩ = some (fv 43) ∧ W.cell? ⟨b, 5, none⟩ = some (fv 44)) ∧
    (W.cell? ⟨b, 6, none⟩ = some (fv 45) ∧ W.cell? ⟨b, 7, none⟩ = some (fv 43) ∧ W.cell? ⟨b, 8, none⟩ = some (fv 44)) ∧
    (W.cell? ⟨b, 9, none⟩ = some (fv 46) ∧ W.cell? ⟨b, 10, none⟩ = some (fv 47) ∧ W.cell? ⟨b, 11, none⟩ = some (fv 48)) ∧
    (W.cell? ⟨b, 12, none⟩ = some (fv 39) ∧ W.cell? ⟨b, 13, none⟩ = some (fv 40) ∧ W.cell? ⟨b, 14, none⟩ = some (fv 41)) ∧
    (W.cell? ⟨b, 15, none⟩ = some (fv 39) ∧ W.cell? ⟨b, 16, none⟩ = some (fv 40) ∧ W.cell? ⟨b, 17, none⟩ = some (fv 41)) := by
  unfold Kd at h
  simp [World.cell?, h]

set_option maxRecDepth 100000 in
set_option maxHeartbeats 1600000 in
theorem makeKinds_c (W : World) : Calls Try.prog 25 #[] W fun e w' => e = .returned (pt W.heap.size) ∧ Kd w' W.heap.size ∧ Gr (fun _ => False) W w' := by
  have hmf : ∀ (fn : Fn) (first cap : Array Value) (w : World), (Instr.makeFunc fn first cap).run Try.prog w = .ok (.func fn first cap) w := fun _ _ _ _ => rfl
  go_enter Try.func25, Try.ntmps25
  go_wp2_with fail
  go_region
  all_goals
    go_wp2_with fail
    go_ret
    refine ⟨rfl, ?_, ?_⟩
    · refine (Gr.drew _ (fun _ => False)).keep ((Gr.alloc _ _ (fun _ => False)).keep (heap_alloc_new W _) (fun e => e)) (fun e => e)
    · exact ((Gr.alloc _ _ _).trans (Gr.alloc _ _ _)).trans (Gr.drew _ _)
end Go.Proofs.Ytfamepdghememaa



