/-
  What a call leaves as it was; which parts of a complex number may be; what is a place; numbers made clean.
-/
import Derived.Test.YtedmfnleckelaaaProg
import Derived.Test.YtedmfnleckelaaaF
import Derived.WalkKit
import Derived.WalkLawsBesides
import Derived.ProofKit
import Derived.Deep.Light
import Derived.WalkSpells
import Derived.Lib.Hide
import Derived.Deep.QuietTactic
import Derived.BigQuiet
import Derived.RegionTactic
import Derived.BigRegion
import Derived.Maps.AppendAt
import Derived.Maps.OwnSet
import Derived.Maps.OwnOps
import Derived.Laws.BytesArg
import Derived.Laws.OwnMore
import Derived.Laws.CopyRow
import Derived.Lib.Walk
import Derived.Shelf.Abstract
set_option linter.unusedVariables false
set_option linter.unusedSimpArgs false
namespace Go.Proofs.Ytedmfnleckelaaa
open Go.RowKit

@[go_sem] theorem st_complex (P : Program) (w : World) (a : Addr) (m : Mode) (k : FloatKind) (x y : Nat) : (store a (.complex k x y) m).run P w = stored P w a (.complex k x y) m := run_store P w a _ m rfl
@[go_sem] theorem st_float (P : Program) (w : World) (a : Addr) (m : Mode) (k : FloatKind) (x : Nat) : (store a (.float k x) m).run P w = stored P w a (.float k x) m := run_store P w a _ m rfl
/-! ### Worlds -/
/-- From W to W' only blocks of S and new ones have turned. -/
structure Gr (S : Nat → Prop) (W W' : World) : Prop where
  os : W'.os = W.os
  tape : W'.tape = W.tape
  output : W'.output = W.output
  size : W.heap.size ≤ W'.heap.size
  block : ∀ k, k < W.heap.size → ¬ S k → W'.heap[k]? = W.heap[k]?
variable {S S' : Nat → Prop} {W W1 W' : World}
theorem Gr.refl (S : Nat → Prop) (W : World) : Gr S W W := ⟨rfl, rfl, rfl, Nat.le_refl _, fun _ _ _ => rfl⟩
theorem Gr.trans' (h : Gr S W W1) (k : Gr S' W1 W') (hs : ∀ i, i < W.heap.size → S' i → S i) : Gr S W W' :=
  ⟨k.os.trans h.os, k.tape.trans h.tape, k.output.trans h.output, Nat.le_trans h.size k.size,
   fun i hi hn => (k.block i (Nat.lt_of_lt_of_le hi h.size) (fun e => hn (hs i hi e))).trans (h.block i hi hn)⟩
theorem Gr.trans (h : Gr S W W1) (k : Gr S W1 W') : Gr S W W' := h.trans' k (fun _ _ e => e)
theorem Gr.mono (h : Gr S W W') (hs : ∀ i, i < W.heap.size → S i → S' i) : Gr S' W W' :=
  ⟨h.os, h.tape, h.output, h.size, fun i hi hn => h.block i hi (fun e => hn (hs i hi e))⟩
theorem Gr.of_below (h : Below W.heap.size W W') (S : Nat → Prop) : Gr S W W' := ⟨h.os, h.tape, h.output, h.size, fun k hk _ => h.block k hk⟩
theorem Gr.of_grown {row : Option Nat} (h : W.grownBy W' row) (hr : ∀ k, row = some k → S k) : Gr S W W' :=
  ⟨h.os, h.tape, h.output, h.size, fun k hk hn => h.block k hk (fun e => hn (hr k e.symm))⟩
theorem Gr.alloc (W : World) (o : Obj) (S : Nat → Prop) : Gr S W (W.alloc o) := .of_below ((Below.refl _ W).alloc (Nat.le_refl _) o) S
theorem Gr.set (W : World) (p : Addr) (v : Value) (h : S p.block) : Gr S W (W.setCell p v) :=
  ⟨rfl, rfl, rfl, by simp, fun k _ hn => heap_setCell_other W p k v (fun e => hn (e ▸ h))⟩
theorem Gr.drew (W : World) (S : Nat → Prop) : Gr S W W.drew := .of_below ((Below.refl _ W).drew) S
theorem Gr.drewN (W : World) (m : Nat) (S : Nat → Prop) : Gr S W (W.drewN m) := ⟨rfl, rfl, rfl, Nat.le_refl _, fun _ _ _ => rfl⟩
theorem Gr.below (h : Gr S W W') {N : Nat} (hN : N ≤ W.heap.size) (hs : ∀ i, S i → N ≤ i) : Below N W W' :=
  ⟨h.os, h.tape, h.output, h.size, fun k hk => h.block k (by omega) (fun e => by have := hs k e; omega)⟩
/-- Nothing that was there has turned. -/
abbrev G0 := Gr (fun _ => False)
theorem Gr.of0 (h : G0 W W') : Gr S W W' := h.mono (fun _ _ e => e.elim)
/-- What was new at W is no matter. -/
theorem Gr.new (h : Gr S W W1) (k : Gr S' W1 W') (hs : ∀ i, S' i → S i ∨ W.heap.size ≤ i) : Gr S W W' := h.trans' k (fun i hi e => (hs i e).elim id (fun e => by omega))


@[go_sem] theorem cf50 (x : Int) (w : World) : (callFunc 50 #[.int .u64 x]).run Try.prog w = .ok (Next.value (.float .f64 x.toNat)) w := by
  rw [run_callFunc_extern (e := Extern.MathFloatBits.float64frombits) Try.func50 (by kernel_rfl) (by kernel_rfl) (by kernel_rfl) (by kernel_rfl)]
  rfl
def fin (x : Nat) : Bool := decide (x % 9223372036854775808 < 9218868437227405312)
def rp (x : Nat) : Bool := fin x && !decide (x = 9223372036854775808)

@[go_sem] theorem cf47 (x : Nat) (w : World) : (callFunc 47 #[.float .f64 x]).run Try.prog w = .ok (Next.value (.int .u64 x)) w := by
  rw [run_callFunc_extern (e := Extern.MathFloatBits.float64bits) Try.func47 (by kernel_rfl) (by kernel_rfl) (by kernel_rfl) (by kernel_rfl)]
  rfl
theorem andNot63 (x : Nat) (h : x < 18446744073709551616) : bits .andNot .u64 (x : Int) 9223372036854775808 = ((x % 9223372036854775808 : Nat) : Int) := by
  have e : (BitVec.ofInt 64 (x : Int) &&& ~~~BitVec.ofInt 64 9223372036854775808).toNat = x % 9223372036854775808 := by
    have h1 : ~~~BitVec.ofInt 64 9223372036854775808 = BitVec.ofNat 64 (2 ^ 63 - 1) := by decide
    rw [h1, BitVec.ofInt_natCast, BitVec.toNat_and, BitVec.toNat_ofNat, BitVec.toNat_ofNat, Nat.mod_eq_of_lt (by omega), Nat.mod_eq_of_lt (by decide), Nat.and_two_pow_sub_one_eq_mod]
  show IntKind.u64.wrap ((BitVec.ofInt 64 (x : Int) &&& ~~~BitVec.ofInt 64 9223372036854775808).toNat : Int) = _
  rw [e, IntKind.wrap_u64]
  omega

theorem isNaN_c (x : Nat) (w : World) : Calls Try.prog 40 #[.float .f64 x] w fun e w' => e = .returned (.bool (!decide (x % 9223372036854775808 ≤ 9218868437227405312))) ∧ w = w' := by
  by_cases h : x % 9223372036854775808 ≤ 9218868437227405312
  · have h1 := self_fin x h
    simp only [h, decide_true, Bool.not_true]
    clear h
    go_enter Try.func40, Try.ntmps40
    go_wp2
    go_ret
    exact ⟨rfl, rfl⟩
  · have h1 := nan_any x x (by omega)
    simp only [h, decide_false, Bool.not_false]
    clear h
    go_enter Try.func40, Try.ntmps40
    go_wp2
    go_ret
    exact ⟨rfl, rfl⟩
set_option maxRecDepth 20000 in
theorem abs_c (x : Nat) (hx : x < 18446744073709551616) (w : World) : Calls Try.prog 48 #[.float .f64 x] w fun e w' => e = .returned (.float .f64 (x % 9223372036854775808)) ∧ w = w' := by
  have h1 := andNot63 x hx
  generalize x % 9223372036854775808 = y at h1 ⊢
  clear hx
  go_enter Try.func48, Try.ntmps48
  go_wp2
  go_ret
  exact ⟨rfl, rfl⟩
set_option maxRecDepth 20000 in
theorem isInf_c (x : Nat) (hx : x < 18446744073709551616) (h : x % 9223372036854775808 ≤ 9218868437227405312) (w : World) :
    Calls Try.prog 41 #[.float .f64 x, .int .i64 0] w fun e w' => e = .returned (.bool (!fin x)) ∧ w = w' := by
  have ha := fun w => abs_c x hx w
  have hy : x % 9223372036854775808 % 9223372036854775808 = x % 9223372036854775808 := by omega
  by_cases h1 : x % 9223372036854775808 < 9218868437227405312
  · have hm := (fin_max (x % 9223372036854775808) (by omega)).1
    rw [show fin x = true by simp [fin, h1]]
    generalize x % 9223372036854775808 = y at ha hm
    clear h h1 hy hx
    go_enter Try.func41, Try.ntmps41
    go_wp2_with fail
    refine (ha _).mono ?_
    rintro e w1 ⟨rfl, rfl⟩
    go_wp2_with fail
    go_ret
    exact ⟨rfl, rfl⟩
  · have hm := (inf_max (x % 9223372036854775808) (by omega)).1
    rw [show fin x = false by simp [fin, h1]]
    have hd : (x % 9223372036854775808 / 9223372036854775808 % 2 == 1) = false := by simp
    rw [hd] at hm
    simp only [Bool.false_eq_true, if_false] at hm
    generalize x % 9223372036854775808 = y at ha hm
    clear h h1 hy hx hd
    go_enter Try.func41, Try.ntmps41
    go_wp2_with fail
    refine (ha _).mono ?_
    rintro e w1 ⟨rfl, rfl⟩
    go_wp2_with fail
    go_ret
    exact ⟨rfl, rfl⟩
set_option maxRecDepth 20000 in
theorem finite_c (x : Nat) (hx : x < 18446744073709551616) (w : World) : Calls Try.prog 27 #[.float .f64 x] w fun e w' => e = .returned (.bool (fin x)) ∧ w = w' := by
  have h1 := fun w => isNaN_c x w
  by_cases h : x % 9223372036854775808 ≤ 9218868437227405312
  · have h2 := fun w => isInf_c x hx h w
    simp only [h, decide_true, Bool.not_true] at h1
    generalize fin x = b at h2 ⊢
    clear h hx
    go_enter Try.func27, Try.ntmps27
    go_wp2_with (first | (go_at_call 40; refine (h1 _).mono ?_; rintro e w1 ⟨rfl, rfl⟩) | (go_at_call 41; refine (h2 _).mono ?_; rintro e w1 ⟨rfl, rfl⟩))
    go_ret
    exact ⟨by simp, rfl⟩
  · simp only [h, decide_false, Bool.not_false] at h1
    rw [show fin x = false by simp [fin]; omega]
    clear h hx
    go_enter Try.func27, Try.ntmps27
    go_wp2_with (first | (go_at_call 40; refine (h1 _).mono ?_; rintro e w1 ⟨rfl, rfl⟩))
    go_ret
    exact ⟨rfl, rfl⟩
set_option maxRecDepth 20000 in
theorem signbit_c (x : Nat) (hx : x < 18446744073709551616) (w : World) : Calls Try.prog 39 #[.float .f64 x] w fun e w' => e = .returned (.bool (decide (9223372036854775808 ≤ x))) ∧ w = w' := by
  obtain ⟨z, hz⟩ : ∃ z : Int, (x : Int) = z := ⟨_, rfl⟩
  have hc : (callFunc 47 #[.float .f64 x]).run Try.prog w = .ok (Next.value (.int .u64 z)) w := by rw [← hz]; exact cf47 x w
  by_cases h : 9223372036854775808 ≤ x
  · have e : wrap64 z = z - 18446744073709551616 := by unfold wrap64; omega
    have h2 : decide (z - 18446744073709551616 < 0) = true := by simp; omega
    rw [show decide (9223372036854775808 ≤ x) = true by simp [h]]
    have k1 : 9223372036854775808 ≤ z := by omega
    have k2 : z < 18446744073709551616 := by omega
    clear hz h hx
    go_enter Try.func39, Try.ntmps39
    go_wp2
    go_ret
    exact ⟨by simp [*], rfl⟩
  · have h2 : decide (z < 0) = false := by simp; omega
    rw [show decide (9223372036854775808 ≤ x) = false by simp; omega]
    have k1 : 0 ≤ z := by omega
    have k2 : z < 9223372036854775808 := by omega
    clear hz h hx
    go_enter Try.func39, Try.ntmps39
    go_wp2
    go_ret
    exact ⟨by simp [*], rfl⟩
set_option maxRecDepth 20000 in
theorem rightPart_c (x : Nat) (hx : x < 18446744073709551616) (w : World) : Calls Try.prog 26 #[.float .f64 x] w fun e w' => e = .returned (.bool (rp x)) ∧ w = w' := by
  have h1 := fun w => finite_c x hx w
  have h2 := fun w => signbit_c x hx w
  have hz := zero_iff x
  cases hf : fin x with
  | false =>
    rw [hf] at h1
    rw [show rp x = false by simp [rp, hf]]
    clear h2 hz hx
    go_enter Try.func26, Try.ntmps26
    go_wp2_with (first | (go_at_call 27; refine (h1 _).mono ?_; rintro e w1 ⟨rfl, rfl⟩))
    go_ret
    exact ⟨rfl, rfl⟩
  | true =>
    rw [hf] at h1
    by_cases h0 : x % 9223372036854775808 = 0
    · simp only [h0, decide_true] at hz
      have hz' : ord x 0 = some .eq := by simpa using hz
      rw [show rp x = !decide (9223372036854775808 ≤ x) by
        simp only [rp, hf, Bool.true_and]
        congr 1
        rw [decide_eq_decide]; omega]
      generalize decide (9223372036854775808 ≤ x) = b at h2 ⊢
      clear h0 hx hz
      go_enter Try.func26, Try.ntmps26
      go_wp2_with (first | (go_at_call 27; refine (h1 _).mono ?_; rintro e w1 ⟨rfl, rfl⟩) | (go_at_call 39; refine (h2 _).mono ?_; rintro e w1 ⟨rfl, rfl⟩))
      go_ret
      exact ⟨by simp, rfl⟩
    · simp only [h0, decide_false] at hz
      have hz' : (ord x 0 != some .eq) = true := by simp [bne, hz]
      rw [show rp x = true by simp [rp, hf]; omega]
      clear h0 hx hz h2
      go_enter Try.func26, Try.ntmps26
      go_wp2_with (first | (go_at_call 27; refine (h1 _).mono ?_; rintro e w1 ⟨rfl, rfl⟩))
      go_ret
      exact ⟨by simp, rfl⟩


abbrev e0 : ByteArray := ⟨#[]⟩
abbrev nl : Value := .slice none 0 0
abbrev lf (k n : Int) (x y : Nat) (s : ByteArray) (a c d : Int) : Value := .agg #[.int .i64 k, .int .i64 n, .complex .f64 x y, .string s, .int .i64 a, .int .u32 c, .int .u64 d, nl, nl]
@[go_sem] theorem ord00 : FloatKind.f64.format.order 0 0 = some .eq := by decide
set_option maxRecDepth 20000 in
set_option maxHeartbeats 800000 in
theorem right_cx (x y : Nat) (hx : x < 18446744073709551616) (hy : y < 18446744073709551616) (w : World) : Calls Try.prog 18 #[lf 2 0 x y e0 0 0 0] w fun e w' => e = .returned (.bool (rp x && rp y)) ∧ G0 w w' := by
  have h1 := fun w => rightPart_c x hx w
  have h2 := fun w => rightPart_c y hy w
  clear hx hy
  cases hr : rp x with
  | false =>
    rw [hr] at h1
    clear hr h2
    go_enter Try.func18, Try.ntmps18
    go_wp2_with fail
    refine (h1 _).mono ?_
    rintro e w1 ⟨rfl, rfl⟩
    go_wp2_with fail
    go_ret
    exact ⟨by simp, Gr.alloc _ _ _⟩
  | true =>
    rw [hr] at h1
    clear hr
    generalize rp y = m at h2 ⊢
    go_enter Try.func18, Try.ntmps18
    go_wp2_with fail
    refine (h1 _).mono ?_
    rintro e w1 ⟨rfl, rfl⟩
    go_wp2_with fail
    refine (h2 _).mono ?_
    rintro e w1 ⟨rfl, rfl⟩
    go_wp2_with fail
    go_ret
    exact ⟨by simp, Gr.alloc _ _ _⟩


/-- A place: finite parts that are not -0. -/
def Pl (x : Nat) : Prop := x < 18446744073709551616 ∧ rp x = true
theorem Pl.of {n : Int} (h : Sm n) : Pl (fi n) := by
  obtain ⟨h1, h2, h3, h4⟩ := fi_fin h
  refine ⟨h1, ?_⟩
  simp [rp, fin, h2, h3]
set_option maxRecDepth 20000 in
theorem place_c (x y : Nat) (hx : Pl x) (hy : Pl y) (w : World) : Calls Try.prog 10 #[.complex .f64 x y] w fun e w' => e = .returned (.bool true) ∧ G0 w w' := by
  have hr := fun w => right_cx x y hx.1 hy.1 w
  rw [hx.2, hy.2] at hr
  clear hx hy
  go_enter Try.func10, Try.ntmps10
  go_wp2_with fail
  refine (hr _).mono ?_
  rintro e w1 ⟨rfl, hg⟩
  go_wp2_with fail
  go_ret
  exact ⟨by simp, hg⟩
theorem clean_c (x : Nat) (hx : rp x = true) (h64 : x < 18446744073709551616) (w : World) : Calls Try.prog 28 #[.float .f64 x] w fun e w' => e = .returned (.float .f64 x) ∧ w = w' := by
  have hz := zero_iff x
  by_cases h0 : x % 9223372036854775808 = 0
  · have : x = 0 := by
      have : x ≠ 9223372036854775808 := by intro e; subst e; revert hx; decide
      omega
    subst this
    clear hx h0 hz
    go_enter Try.func28, Try.ntmps28
    go_wp2
    go_ret
    exact ⟨rfl, rfl⟩
  · simp only [h0, decide_false] at hz
    clear hx h0 h64
    go_enter Try.func28, Try.ntmps28
    go_wp2
    go_ret
    exact ⟨rfl, rfl⟩
theorem fin_of {x : Nat} (h : rp x = true) : fin x = true := by simp [rp] at h; exact h.1
set_option maxRecDepth 20000 in
set_option maxHeartbeats 1000000 in
theorem cx_c (x y : Nat) (hx : Pl x) (hy : Pl y) (w : World) : Calls Try.prog 20 #[.complex .f64 x y] w fun e w' => e = .returned (.tuple #[lf 2 0 x y e0 0 0 0, .int .i64 0]) ∧ G0 w w' := by
  have h1 := fun w => finite_c x hx.1 w
  have h2 := fun w => finite_c y hy.1 w
  have h3 := fun w => clean_c x hx.2 hx.1 w
  have h4 := fun w => clean_c y hy.2 hy.1 w
  rw [fin_of hx.2] at h1
  rw [fin_of hy.2] at h2
  clear hx hy
  go_enter Try.func20, Try.ntmps20
  go_wp2_with fail
  refine (h1 _).mono ?_
  rintro e w' ⟨rfl, rfl⟩
  go_wp2_with fail
  refine (h2 _).mono ?_
  rintro e w' ⟨rfl, rfl⟩
  go_wp2_with fail
  refine (h3 _).mono ?_
  rintro e w' ⟨rfl, rfl⟩
  go_wp2_with fail
  refine (h4 _).mono ?_
  rintro e w' ⟨rfl, rfl⟩
  go_wp2
  exact bodyPost_ret (v := .tuple #[lf 2 0 x y e0 0 0 0, .int .i64 0]) (by simp [results, Try.results20, go_sem]) rfl ⟨rfl, Gr.alloc _ _ _⟩
end Go.Proofs.Ytedmfnleckelaaa
