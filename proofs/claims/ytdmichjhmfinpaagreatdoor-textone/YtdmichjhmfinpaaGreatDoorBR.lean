/-
  Decimal numerals and the bits of a float behind a row of the call's own; which part of a text a term was read of.
-/
import Derived.Test.YtdmichjhmfinpaaGreatDoorBE
import Derived.Shelf.LaysM
import Derived.Shelf.Strconv.Itoa1
import Derived.Shelf.Strconv.Itoa2
import Derived.Lib.ItoaWalk
import Derived.Lib.ItoaMem
import Derived.Lib.AppendIntMem
import Derived.Test.YtdmichjhmfinpaaGreatDoorBG
import Derived.Laws.BitsAllLaws
import Derived.Deep.RegionHeld3
import Derived.Test.YtdmichjhmfinpaaGreatDoorAS
import Derived.Test.YtdmichjhmfinpaaGreatDoorZ
set_option linter.unusedVariables false
set_option linter.unusedSimpArgs false
namespace Go.Proofs.YtdmichjhmfinpaaGreatDoor
open Go.Shelf
def lays283_ren : Go.Shelf.Ren := ⟨fun | 283 => 120 | n => n, fun | 3 => 3 | 9 => 9 | 4 => 4 | n => n, fun | n => n⟩
theorem lays283 : Go.Proofs.Lays.n283 Tryz.prog lays283_ren := {
  mixed := by kernel_rfl
  f283 := Tryz.func120.trans (congrArg some (by kernel_rfl))
  t3 := Tryz.underlying3
  a3 := Tryz.isAgg3
  z3 := Tryz.sizeOf3
  v3 := Tryz.zeroValue3
  t4 := Tryz.underlying4
  a4 := Tryz.isAgg4
  z4 := Tryz.sizeOf4
  v4 := Tryz.zeroValue4
  t9 := Tryz.underlying9
  a9 := Tryz.isAgg9
  z9 := Tryz.sizeOf9
  v9 := Tryz.zeroValue9 }
def laysM284_ren : Go.Shelf.Ren := ⟨fun | 284 => 121 | 129 => 137 | 317 => 136 | 318 => 138 | n => n, fun | 53 => 25 | 3 => 3 | 212 => 147 | 0 => 0 | 4 => 4 | 46 => 105 | 5 => 5 | 9 => 9 | n => n, fun | 17 => 2 | n => n⟩
theorem laysM284 : Go.Proofs.LaysM.n284 Tryz.prog laysM284_ren := {
  mixed := by kernel_rfl
  f129 := Tryz.func137.trans (congrArg some (by kernel_rfl))
  f284 := Tryz.func121.trans (congrArg some (by kernel_rfl))
  f317 := Tryz.func136.trans (congrArg some (by kernel_rfl))
  f318 := Tryz.func138.trans (congrArg some (by kernel_rfl))
  t0 := Tryz.underlying0
  a0 := Tryz.isAgg0
  z0 := Tryz.sizeOf0
  v0 := Tryz.zeroValue0
  t3 := Tryz.underlying3
  a3 := Tryz.isAgg3
  z3 := Tryz.sizeOf3
  v3 := Tryz.zeroValue3
  t4 := Tryz.underlying4
  a4 := Tryz.isAgg4
  z4 := Tryz.sizeOf4
  v4 := Tryz.zeroValue4
  t5 := Tryz.underlying5
  a5 := Tryz.isAgg5
  z5 := Tryz.sizeOf5
  v5 := Tryz.zeroValue5
  t9 := Tryz.underlying9
  a9 := Tryz.isAgg9
  z9 := Tryz.sizeOf9
  v9 := Tryz.zeroValue9
  t46 := Tryz.underlying105
  a46 := Tryz.isAgg105
  z46 := Tryz.sizeOf105
  v46 := Tryz.zeroValue105
  t53 := Tryz.underlying25
  a53 := Tryz.isAgg25
  z53 := Tryz.sizeOf25
  v53 := Tryz.zeroValue25
  t212 := Tryz.underlying147
  a212 := Tryz.isAgg147
  z212 := Tryz.sizeOf147
  v212 := Tryz.zeroValue147
  g17 := by kernel_rfl
  i0 := by kernel_rfl
  i3 := by kernel_rfl
  i4 := by kernel_rfl
  i5 := by kernel_rfl
  i9 := by kernel_rfl
  i46 := by kernel_rfl
  i53 := by kernel_rfl
  i212 := by kernel_rfl
  m17 := by kernel_rfl }
def lays285_ren : Go.Shelf.Ren := ⟨fun | 285 => 122 | n => n, fun | 37 => 28 | 53 => 25 | 3 => 3 | 4 => 4 | 51 => 24 | 9 => 9 | 5 => 5 | 0 => 0 | n => n, fun | n => n⟩
theorem lays285 : Go.Proofs.Lays.n285 Tryz.prog lays285_ren := {
  mixed := by kernel_rfl
  f285 := Tryz.func122.trans (congrArg some (by kernel_rfl))
  t0 := Tryz.underlying0
  a0 := Tryz.isAgg0
  z0 := Tryz.sizeOf0
  v0 := Tryz.zeroValue0
  t3 := Tryz.underlying3
  a3 := Tryz.isAgg3
  z3 := Tryz.sizeOf3
  v3 := Tryz.zeroValue3
  t4 := Tryz.underlying4
  a4 := Tryz.isAgg4
  z4 := Tryz.sizeOf4
  v4 := Tryz.zeroValue4
  t5 := Tryz.underlying5
  a5 := Tryz.isAgg5
  z5 := Tryz.sizeOf5
  v5 := Tryz.zeroValue5
  t9 := Tryz.underlying9
  a9 := Tryz.isAgg9
  z9 := Tryz.sizeOf9
  v9 := Tryz.zeroValue9
  t37 := Tryz.underlying28
  a37 := Tryz.isAgg28
  z37 := Tryz.sizeOf28
  v37 := Tryz.zeroValue28
  t51 := Tryz.underlying24
  a51 := Tryz.isAgg24
  z51 := Tryz.sizeOf24
  v51 := Tryz.zeroValue24
  t53 := Tryz.underlying25
  a53 := Tryz.isAgg25
  z53 := Tryz.sizeOf25
  v53 := Tryz.zeroValue25 }

end Go.Proofs.YtdmichjhmfinpaaGreatDoor
namespace Go.Proofs.YtdmichjhmfinpaaGreatDoor
open Go.RowKit Go.Maps Go.Sort
variable {S S' : Nat → Prop} {W W1 W' : World}

/-- The library's table of powers of ten. -/
def Tb (W : World) : Prop := ∃ t f, W.heap[2]? = some (.cells (Lib.pow10Tab.map fun z => Value.int .u64 z).toArray t f)
theorem Tb.gr (h : Tb W) (g : Gr S W W') (hs : ¬ S 2) : Tb W' := by
  obtain ⟨t, f, h⟩ := h
  exact ⟨t, f, (g.block 2 (Array.getElem?_eq_some_iff.1 h).1 hs).trans h⟩
theorem Tb.g0 (h : Tb W) (g : Gr (fun _ => False) W W') : Tb W' := h.gr g (fun e => e)
theorem Tb.lt (h : Tb W) : 2 < W.heap.size := by
  obtain ⟨t, f, h⟩ := h
  exact (Array.getElem?_eq_some_iff.1 h).1
theorem Tb.is (h : Tb W) {n : String} (hg : Tryz.prog.globalNamed n = some 2) : Lib.TabIs Tryz.prog W n .u64 Lib.pow10Tab := by
  obtain ⟨t, f, h⟩ := h
  simp [Lib.TabIs, World.var?, hg, h]

def dd (u : Nat) : List Int := (Lib.decDigits u).map fun c => (c.toNat : Int)
def di (v : Int) : List Int := (Lib.itoa v).map fun c => (c.toNat : Int)
theorem tb_dd (u : Nat) : tb ⟨(Lib.decDigits u).toArray⟩ = dd u := by simp [tb, dd]
theorem u8s_dd (u : Nat) : u8s (dd u) = Lib.byteCells (Lib.decDigits u) := by simp [u8s, dd, Lib.byteCells]
theorem dd_len (u : Nat) (hu : u < 18446744073709551616) : (dd u).length ≤ 20 := by
  rw [dd, List.length_map, Lib.decDigits_length]
  by_cases h1 : 1 ≤ u
  · have := Lib.numDigits_eq u h1 hu; split at this <;> omega
  · rw [Lib.nDigits_small (by omega)]; decide

theorem small_c (i : Nat) (h : i < 100) (w : World) : Calls Tryz.prog 120 #[.int .i64 i] w fun e w' => e = .returned (.string ⟨(Lib.decDigits i).toArray⟩) ∧ w' = w := Any.internal_strconv_small lays283 i h w
theorem numDigits_c (u : Nat) (h1 : 1 ≤ u) (h2 : u < 18446744073709551616) (w : World) (hT : Tb w) : Calls Tryz.prog 121 #[.int .u64 u] w fun e w' => e = .returned (.int .i64 (Lib.nDigits u)) ∧ w' = w :=
  Any.internal_strconv_numDigits laysM284 u h1 h2 w (hT.is (by kernel_rfl))
theorem formatBase10_c (blk off cap : Nat) (u : Nat) (d : Array UInt8) (w : World) (hH : Holds (fun (b : UInt8) => Value.int .u8 (b.toNat : Int)) w blk off d) (hu : u < 10 ^ d.size) (hu64 : u < 18446744073709551616) (hsz : d.size < 4611686018427387904) :
    Calls Tryz.prog 122 #[.slice (some ⟨blk, off, none⟩) d.size cap, .int .u64 u] w fun e w' =>
      e = .returned (.tuple #[]) ∧ ∃ (n v' : Nat) (dk : Array UInt8), w' = (putRow (fun (b : UInt8) => Value.int .u8 (b.toNat : Int)) w blk off dk).drewN n ∧ Lib.FmtInv d.size u 0 v' dk := Any.internal_strconv_formatBase10 lays285 blk off cap u d w hH hu hu64 hsz

set_option maxRecDepth 100000 in
set_option maxHeartbeats 1600000 in
theorem appendUint_s (W : World) (base : Nat) (v : Value) (l : List Int) (u : Nat) (hu : u < 100) (h : Ob base W v l) (hl : l.length ≤ 900000) (hb : base ≤ W.heap.size) :
    Calls Tryz.prog 101 #[v, .int .u64 u, .int .i64 10] W fun e w' => ∃ v', e = .returned v' ∧ Ob base w' v' (l ++ dd u) ∧ Loc v W v' w' := by
  obtain ⟨a, cap, rfl⟩ := h.sv
  have hlen : (dd u).length ≤ 20 := dd_len u (by omega)
  have hsz : (⟨(Lib.decDigits u).toArray⟩ : ByteArray).size = (dd u).length := by simp [ByteArray.size, dd]
  have iu : (u : Int) < 100 := by omega
  go_enter Tryz.func101, Tryz.ntmps101
  go_wp2_with (first
    | (go_at_call 120; refine (small_c u hu _).mono ?_; rintro e w1 ⟨rfl, rfl⟩)
    | (at_builtin; refine wpList_aps rfl _ _ rfl base _ ⟨(Lib.decDigits u).toArray⟩ l rfl rfl h (by rw [hsz]; omega) hb ?_; intro v' w' o' g'))
  go_ret
  rw [tb_dd] at o'
  exact ⟨_, rfl, o', g'⟩

theorem arr136 : Tryz.prog.arrayLen 136 = 24 := by kernel_rfl
set_option maxRecDepth 100000 in
set_option maxHeartbeats 3200000 in
theorem appendUint_b (W : World) (base : Nat) (v : Value) (l : List Int) (u : Nat) (hu : 100 ≤ u) (hu64 : u < 18446744073709551616) (h : Ob base W v l) (hl : l.length ≤ 900000) (hb : base ≤ W.heap.size) (hT : Tb W) :
    Calls Tryz.prog 101 #[v, .int .u64 u, .int .i64 10] W fun e w' => ∃ v', e = .returned v' ∧ Ob base w' v' (l ++ dd u) ∧ Loc v W v' w' := by
  obtain ⟨a, cap, rfl⟩ := h.sv
  have hu1 : 1 ≤ u := by omega
  have hdl : (dd u).length = Lib.nDigits u := by rw [dd, List.length_map, Lib.decDigits_length]
  have hnd20 : Lib.nDigits u ≤ 20 := by rw [← hdl]; exact dd_len u hu64
  have hsl : ∀ w, (Instr.sliceAt 136 (.pointer (some ⟨W.heap.size, 0, none⟩)) none (some (.int .i64 (Lib.nDigits u : Int))) none).run Tryz.prog w = .ok (.slice (some ⟨W.heap.size, 0, none⟩) (Lib.nDigits u) 24) w := fun w => by
    rw [run_sliceAt_array_h w 136 ⟨W.heap.size, 0, none⟩ (by kernel_rfl) .i64 (Lib.nDigits u : Int) (by omega) (by rw [arr136]; omega)]
    go_simp
  have hH0 := Lib.holds_zero0 W 136 (Lib.nDigits u) (by omega)
  have hfmt := formatBase10_c W.heap.size 0 24 u (Array.replicate (Lib.nDigits u) 0) (W.alloc (.cells Lib.zeros24 136)) hH0 (by rw [Array.size_replicate]; exact Lib.lt_pow_nDigits u) hu64 (by rw [Array.size_replicate]; omega)
  rw [Array.size_replicate] at hfmt
  have HH0 := Lib.hid hH0
  have iu : (100 : Int) ≤ (u : Int) := by omega
  have hT1 : ∀ o, Tb (W.alloc o) := fun o => hT.g0 (Gr.alloc _ _ _)
  clear hH0
  go_enter Tryz.func101, Tryz.ntmps101
  go_wp2_with (first
    | (go_at_call 121; refine (numDigits_c u hu1 hu64 _ (hT1 _)).mono ?_; rintro e w' ⟨rfl, rfl⟩))
  go_at_call 122
  refine hfmt.mono ?_
  rintro e w' ⟨rfl, k, v', dk, rfl, hF⟩
  have hcells : ∀ j u', (u8s (dd u))[j]? = some u' → ((putRow (fun (b : UInt8) => Value.int .u8 (b.toNat : Int)) (W.alloc (.cells Lib.zeros24 136)) W.heap.size 0 dk).drewN k).cell? ((⟨W.heap.size, 0, none⟩ : Addr).add j) = some u' := by
    intro j u' hj
    rw [u8s_dd] at hj
    have hjl : j < (Lib.decDigits u).length := by
      have h5 := (List.getElem?_eq_some_iff.1 hj).1
      rwa [Lib.byteCells_length] at h5
    have e5 : (Lib.byteCells (Lib.decDigits u))[j]? = some (Value.int .u8 ((Lib.decDigits u)[j].toNat : Int)) := by simp [Lib.byteCells, hjl]
    rw [e5] at hj
    cases hj
    rw [Lib.row_is_numeral hF j hjl, Lib.add_plain, World.cell?_drewN]
    exact cell?_putRow (fun (b : UInt8) => Value.int .u8 (b.toNat : Int)) _ W.heap.size 0 _ dk HH0.out (by rw [hF.size, Array.size_replicate]) j (by rw [hF.size]; rw [Lib.decDigits_length] at hjl; exact hjl)
  obtain ⟨os, eo⟩ := Lib.fin_at W (.cells Lib.zeros24 136) dk k 0
  have hg2 : Gr (fun _ => False) W ((putRow (fun (b : UInt8) => Value.int .u8 (b.toNat : Int)) (W.alloc (.cells Lib.zeros24 136)) W.heap.size 0 dk).drewN k) := by
    rw [eo]
    exact ⟨rfl, rfl, rfl, Lib.size_grow W k os, fun q hq _ => Lib.heap_grow_old W k os q hq⟩
  generalize (putRow (fun (b : UInt8) => Value.int .u8 (b.toNat : Int)) (W.alloc (.cells Lib.zeros24 136)) W.heap.size 0 dk).drewN k = W2 at hcells hg2 ⊢
  clear eo HH0 hfmt
  have hsb : Sb W2 (.slice (some ⟨W.heap.size, 0, none⟩) (Lib.nDigits u) 24) (dd u) := .inr ⟨⟨W.heap.size, 0, none⟩, 24, by rw [hdl], hcells⟩
  go_wp2_with (first
    | (at_builtin; refine wpList_ap rfl _ _ rfl base _ _ l (dd u) rfl rfl (h.g0 hg2) hsb (by omega) (by have := hg2.size; omega) ?_; intro v3 w3 o3 g3))
  go_ret
  exact ⟨_, rfl, o3, Loc.pre hg2 g3⟩
theorem appendUint_c (W : World) (base : Nat) (v : Value) (l : List Int) (u : Nat) (hu64 : u < 18446744073709551616) (h : Ob base W v l) (hl : l.length ≤ 900000) (hb : base ≤ W.heap.size) (hT : Tb W) :
    Calls Tryz.prog 101 #[v, .int .u64 u, .int .i64 10] W fun e w' => ∃ v', e = .returned v' ∧ Ob base w' v' (l ++ dd u) ∧ Loc v W v' w' := by
  by_cases hu : u < 100
  · exact appendUint_s W base v l u hu h hl hb
  · exact appendUint_b W base v l u (by omega) hu64 h hl hb hT
set_option maxRecDepth 20000 in
set_option maxHeartbeats 400000 in
/-- strconv.AppendUint. -/
theorem appendUintP_c (W : World) (base : Nat) (v : Value) (l : List Int) (u : Nat) (hu64 : u < 18446744073709551616) (h : Ob base W v l) (hl : l.length ≤ 900000) (hb : base ≤ W.heap.size) (hT : Tb W) :
    Calls Tryz.prog 72 #[v, .int .u64 u, .int .i64 10] W fun e w' => ∃ v', e = .returned v' ∧ Ob base w' v' (l ++ dd u) ∧ Loc v W v' w' := by
  have hc := appendUint_c W base v l u hu64 h hl hb hT
  obtain ⟨a, cap, rfl⟩ := h.sv
  generalize (u : Int) = ui at hc ⊢
  go_enter Tryz.func72, Tryz.ntmps72
  go_wp2_with (first
    | (go_at_call 101; refine hc.mono ?_; rintro e w2 ⟨v2, rfl, o2, g2⟩))
  go_ret
  exact ⟨v2, rfl, o2, g2⟩
theorem di_pos {v : Int} (h : 0 ≤ v) : di v = dd v.toNat := by
  have := Lib.itoa_nonneg v.toNat
  rw [Int.toNat_of_nonneg h] at this
  rw [di, this, dd]
theorem di_neg {v : Int} (h : v < 0) : di v = 45 :: dd (-v).toNat := by
  have := Lib.itoa_neg (-v).toNat (by omega)
  rw [Int.toNat_of_nonneg (by omega), Int.neg_neg] at this
  rw [di, this, dd]
  rfl
set_option maxRecDepth 20000 in
set_option maxHeartbeats 400000 in
theorem appendInt_i (W : World) (base : Nat) (v : Value) (l : List Int) (n : Int) (h0 : -9223372036854775808 ≤ n) (h1 : n ≤ 9223372036854775807) (h : Ob base W v l) (hl : l.length ≤ 800000) (hb : base ≤ W.heap.size) (hB : 2 < base) (hT : Tb W) :
    Calls Tryz.prog 70 #[v, .int .i64 n, .int .i64 10] W fun e w' => ∃ v', e = .returned v' ∧ Ob base w' v' (l ++ di n) ∧ Loc v W v' w' := by
  by_cases hn : n < 0
  · have e1 : IntKind.u64.wrap (-IntKind.u64.wrap n) = ((-n).toNat : Int) := by
      rw [IntKind.wrap_u64, IntKind.wrap_u64]; omega
    rw [di_neg hn]
    have hu : (-n).toNat < 18446744073709551616 := by omega
    have hc := fun w v (g : Gr (fun k => base ≤ k) W w) (ho : Ob base w v (l ++ [45])) => appendUint_c w base v (l ++ [45]) _ hu ho (by simp; omega) (by have := g.size; omega) (hT.gr g (by omega))
    rw [← e1] at hc
    have hsp : Hid (l ++ 45 :: dd (-n).toNat = l ++ [45] ++ dd (-n).toNat) := Lib.hid (by simp)
    rw [hsp.out]
    generalize dd (-n).toNat = D at hc ⊢
    have hlit := Ob.lit 0 W [45] (by simp) (Nat.zero_le _) #[.int .u8 45] rfl 1 rfl
    obtain ⟨a, cap, rfl⟩ := h.sv
    clear e1 hsp
    go_enter Tryz.func70, Tryz.ntmps70
    go_wp2_with (first
      | (at_builtin; refine wpList_ap rfl _ _ rfl base _ _ l [45] rfl rfl (h.g0 (Gr.alloc _ _ _)) hlit.sb (by simp; omega) (by simp; omega) ?_; intro v1 w1 o1 g1; have gg := Loc.pre (Gr.alloc W _ _) g1; have hH := Lib.hid (hc w1 v1 (gg.far h) o1))
      | (go_at_call 101; refine (Hid.out hH).mono ?_; rintro e w2 ⟨v2, rfl, o2, g2⟩))
    go_ret
    exact ⟨v2, rfl, o2, gg.trans g2⟩
  · have e1 : IntKind.u64.wrap n = (n.toNat : Int) := by
      rw [IntKind.wrap_u64]; omega
    rw [di_pos (by omega)]
    have hc := appendUint_c W base v l n.toNat (by omega) h (by omega) hb hT
    rw [Int.toNat_of_nonneg (show 0 ≤ n by omega)] at hc
    obtain ⟨a, cap, rfl⟩ := h.sv
    clear e1
    go_enter Tryz.func70, Tryz.ntmps70
    go_wp2_with (first
      | (go_at_call 101; refine hc.mono ?_; rintro e w2 ⟨v2, rfl, o2, g2⟩))
    go_ret
    exact ⟨v2, rfl, o2, g2⟩
set_option maxRecDepth 20000 in
set_option maxHeartbeats 400000 in
/-- strconv.AppendInt. -/
theorem appendInt_c (W : World) (base : Nat) (v : Value) (l : List Int) (n : Int) (h0 : -9223372036854775808 ≤ n) (h1 : n ≤ 9223372036854775807) (h : Ob base W v l) (hl : l.length ≤ 800000) (hb : base ≤ W.heap.size) (hB : 2 < base) (hT : Tb W) :
    Calls Tryz.prog 35 #[v, .int .i64 n, .int .i64 10] W fun e w' => ∃ v', e = .returned v' ∧ Ob base w' v' (l ++ di n) ∧ Loc v W v' w' := by
  have hc := appendInt_i W base v l n h0 h1 h hl hb hB hT
  obtain ⟨a, cap, rfl⟩ := h.sv
  go_enter Tryz.func35, Tryz.ntmps35
  go_wp2_with (first
    | (go_at_call 70; refine hc.mono ?_; rintro e w2 ⟨v2, rfl, o2, g2⟩))
  go_ret
  exact ⟨v2, rfl, o2, g2⟩
end Go.Proofs.YtdmichjhmfinpaaGreatDoor
namespace Go.Proofs.YtdmichjhmfinpaaGreatDoor
open Go.RowKit Go.Maps
variable {S S' : Nat → Prop} {W W1 W' : World}

/-- So many digits of base 16, the highest first. -/
def hxs (n x : Nat) : List Int := (List.range n).map fun q => ((hx (x / 16 ^ (n - 1 - q) % 16) : Nat) : Int)
theorem ixu64 (s : ByteArray) (k : Nat) (h : k < s.size) (w : World) : (Instr.index 9 (.string s) (.int .u64 (k : Int))).run Tryz.prog w = .ok (.int .u8 (bt s k)) w := by
  rw [run_index_string w 9 s .u64 k (by kernel_rfl), dif_pos ⟨by omega, by omega⟩]
  have h2 : k < s.data.size := h
  have e : s[k]? = some s[k] := ByteArray.getElem?_lt' s k h
  simp only [bt, Int.toNat_natCast, Array.getElem?_eq_getElem h2, Option.getD_some]
  rfl
theorem and15 (m : Nat) (hm : m < 18446744073709551616) : bits .and .u64 (m : Int) 15 = ((m % 16 : Nat) : Int) := by
  have e1 : (BitVec.ofInt 64 (m : Int) &&& BitVec.ofInt 64 15).toNat = m % 16 := by
    rw [show (15 : Int) = ((15 : Nat) : Int) from rfl, BitVec.ofInt_natCast, BitVec.ofInt_natCast, BitVec.toNat_and, BitVec.toNat_ofNat, BitVec.toNat_ofNat, Nat.mod_eq_of_lt (by omega), Nat.mod_eq_of_lt (by decide)]
    exact Nat.and_two_pow_sub_one_eq_mod m 4
  show IntKind.u64.wrap ((BitVec.ofInt 64 (m : Int) &&& BitVec.ofInt 64 15).toNat : Int) = _
  rw [e1, IntKind.wrap_u64]
  omega
theorem nib (x j : Nat) (hx : x < 18446744073709551616) (hj : j < 16) : bits .and .u64 ((x : Int) / 2 ^ (60 - 4 * j)) 15 = ((x / 16 ^ (15 - j) % 16 : Nat) : Int) := by
  have e : ((x : Int) / 2 ^ (60 - 4 * j)) = ((x / 16 ^ (15 - j) : Nat) : Int) := by
    have : 2 ^ (60 - 4 * j) = 16 ^ (15 - j) := by
      rw [show (16 : Nat) = 2 ^ 4 from rfl, ← Nat.pow_mul]; congr 1; omega
    rw [← this]
    simp
  rw [e, and15]
  exact Nat.lt_of_le_of_lt (Nat.div_le_self _ _) hx
theorem hxs_take (x j : Nat) (hj : j < 16) : (hxs 16 x).take (j + 1) = (hxs 16 x).take j ++ [((hx (x / 16 ^ (15 - j) % 16) : Nat) : Int)] := by
  rw [List.take_add_one]
  congr 1
  have h1 : j < (hxs 16 x).length := by simp [hxs]; omega
  rw [List.getElem?_eq_getElem h1]
  simp [hxs]
set_option maxRecDepth 20000 in
set_option maxHeartbeats 1600000 in
theorem putBits_c (W : World) (base : Nat) (v : Value) (l : List Int) (x : Nat) (hxb : x < 18446744073709551616) (h : Ob base W v l) (hl : l.length ≤ 900000) (hb : base ≤ W.heap.size) :
    Calls Tryz.prog 36 #[v, .float .f64 x] W fun e w' => ∃ v', e = .returned v' ∧ Ob base w' v' (l ++ hxs 16 x) ∧ Loc v W v' w' := by
  obtain ⟨a, cap, rfl⟩ := h.sv
  have hl16 : (hxs 16 x).length = 16 := by simp [hxs]
  go_enter Tryz.func36, Tryz.ntmps36
  go_wp2
  go_loopw [0, 6] (fun b i wr => ∃ j : Nat, j ≤ 16 ∧ i = .int .i64 (60 - 4 * (j : Int)) ∧ Ob base wr b (l ++ (hxs 16 x).take j) ∧ Loc (.slice a l.length cap) W b wr) (fun _ i _ => (intOf i + 4).toNat)
  case atStart => exact ⟨0, by omega, rfl, by simpa using h, Loc.refl _ _⟩
  case round =>
    obtain ⟨j, hj, rfl, ho, hgl⟩ := hrel
    by_cases hjl : j < 16
    · have hix := fun w => ixu64 dg (x / 16 ^ (15 - j) % 16) (by show _ < 16; omega) w
      rw [bt_dg _ (by omega), ← nib x j hxb hjl] at hix
      have hstep : Hid (l ++ (hxs 16 x).take (j + 1) = l ++ (hxs 16 x).take j ++ [((hx (x / 16 ^ (15 - j) % 16) : Nat) : Int)]) := Lib.hid (by rw [hxs_take x j hjl, List.append_assoc])
      have hlo : (l ++ (hxs 16 x).take j).length ≤ 900016 := by simp [hl16]; omega
      obtain ⟨L, hL⟩ : ∃ L, l ++ (hxs 16 x).take j = L := ⟨_, rfl⟩
      rw [hL] at ho hlo hstep
      generalize ((hx (x / 16 ^ (15 - j) % 16) : Nat) : Int) = D at hix hstep
      have hbw : base ≤ wr.heap.size := by have := hgl.gr.size; omega
      clear hL hl16
      obtain ⟨xa, xc, rfl⟩ := ho.sv
      have hjI : 4 * (j : Int) ≤ 60 := by omega
      go_wp2_with (first
        | (at_builtin; refine wpList_ap rfl _ _ rfl base _ _ L [D] rfl rfl (ho.g0 (Gr.alloc _ _ _)) (Ob.lit 0 wr [D] (by simp) (Nat.zero_le _) #[.int .u8 D] rfl 1 rfl).sb (by simp; omega) (by simp; omega) ?_; intro v1 w1 o1 g1; have gg := Loc.pre (Gr.alloc wr _ _) g1))
      exact ⟨⟨j + 1, by omega, by congr 1; omega, by rw [hstep.out]; exact o1, hgl.trans gg⟩, by simp [intOf]; omega⟩
    · obtain rfl : j = 16 := by omega
      rw [List.take_of_length_le (by omega)] at ho
      go_wp2_with fail
      go_ret
      exact ⟨_, rfl, ho, hgl⟩

end Go.Proofs.YtdmichjhmfinpaaGreatDoor
namespace Go.Proofs.YtdmichjhmfinpaaGreatDoor
open Go.RowKit Go.Maps
/-- The bytes of a text from i to j. -/
def seg (s : ByteArray) (i j : Nat) : List Int := (List.range (j - i)).map fun k => bt s (i + k)
theorem seg_nil (s : ByteArray) (i : Nat) : seg s i i = [] := by simp [seg]
theorem seg_len (s : ByteArray) (i j : Nat) : (seg s i j).length = j - i := by simp [seg]
theorem seg_app (s : ByteArray) {i j k : Nat} (h1 : i ≤ j) (h2 : j ≤ k) : seg s i j ++ seg s j k = seg s i k := by
  apply List.ext_getElem
  · simp [seg]; omega
  · intro q h3 h4
    simp only [seg, List.getElem_append, List.length_map, List.length_range, List.getElem_map, List.getElem_range]
    split
    · rfl
    · congr 1; simp [seg] at *; omega
theorem seg_one (s : ByteArray) (i : Nat) : seg s i (i + 1) = [bt s i] := by simp [seg]
theorem seg_cons (s : ByteArray) {i j : Nat} (h : i < j) : seg s i j = bt s i :: seg s (i + 1) j := by
  rw [← seg_app s (Nat.le_succ i) (show i + 1 ≤ j by omega), seg_one]; rfl
theorem seg_snoc (s : ByteArray) {i j : Nat} (h : i ≤ j) : seg s i (j + 1) = seg s i j ++ [bt s j] := by
  rw [← seg_app s h (Nat.le_succ j), seg_one]
theorem pk_bt {s : ByteArray} {i : Nat} (h : i < s.size) : pk s i = bt s i := by rw [pk, if_pos h]
theorem pk_bt' {s : ByteArray} {i : Nat} {c : Int} (h : pk s i = c) (hc : c ≠ 0) : bt s i = c := by
  have hlt : i < s.size := lt_of_pk (by rw [h]; exact hc)
  rw [← pk_bt hlt]; exact h
theorem seg_tb (s : ByteArray) (i j : Nat) (hj : j ≤ s.size) : tb (s.extract i j) = seg s i j := by
  apply List.ext_getElem
  · rw [tb_length, size_ext s i j hj, seg_len]
  · intro q h3 h4
    rw [seg_len] at h4
    have hb := bt_ext s i j q hj h4
    have hq : q < (s.extract i j).data.size := by rw [tb_length] at h3; exact h3
    simp only [tb, seg, List.getElem_map, List.getElem_range, Array.getElem_toList]
    rw [← hb, bt, Array.getElem?_eq_getElem hq, Option.getD_some]
theorem seg_all (s : ByteArray) : seg s 0 s.size = tb s := by
  rw [← seg_tb s 0 s.size (Nat.le_refl _)]
  congr 1
  apply ByteArray.ext
  simp [ByteArray.data_extract]
theorem foldl_push (l : List UInt8) : ∀ (r : ByteArray), (l.map fun b => (b.toNat : Int)).foldl (fun r n => r.push (UInt8.ofNat n.toNat)) r = ⟨r.data ++ l.toArray⟩ := by
  induction l with
  | nil => intro r; simp
  | cons x l ih =>
    intro r
    rw [List.map_cons, List.foldl_cons, ih]
    congr 1
    have : UInt8.ofNat ((x.toNat : Int)).toNat = x := by simp
    rw [this]
    simp [ByteArray.push]
theorem sb_tb (s : ByteArray) : sb (tb s) = s := by
  unfold sb tb
  rw [foldl_push]
  apply ByteArray.ext
  simp

/-! ### Decimal digits -/
theorem dd_small {u : Nat} (h : u < 10) : dd u = [((48 + u : Nat) : Int)] := by
  rw [dd, Lib.decDigits_one h]; simp; omega
theorem dd_big {u : Nat} (h : ¬ u < 10) : dd u = dd (u / 10) ++ [((48 + u % 10 : Nat) : Int)] := by
  rw [dd, Lib.decDigits, dif_neg h]; simp [dd]; omega
theorem dd_dva (t : ByteArray) (hD : ∀ k, k < t.size → dig (bt t k) = true) (h0 : bt t 0 ≠ 48) : ∀ k, k + 1 ≤ t.size → 1 ≤ dva t (k + 1) ∧ dd (dva t (k + 1)).toNat = seg t 0 (k + 1)
  | 0, h => by
    have h1 := hD 0 (by omega)
    simp [dig] at h1
    have e : dva t (0 + 1) = bt t 0 - 48 := by simp [dva]
    refine ⟨by rw [e]; omega, ?_⟩
    rw [e, dd_small (by omega), Nat.zero_add, seg_one]
    congr 1
    omega
  | k + 1, h => by
    obtain ⟨h2, h3⟩ := dd_dva t hD h0 k (by omega)
    have h1 := hD (k + 1) (by omega)
    simp [dig] at h1
    have e : dva t (k + 1 + 1) = dva t (k + 1) * 10 + (bt t (k + 1) - 48) := rfl
    refine ⟨by rw [e]; omega, ?_⟩
    rw [e, dd_big (by omega)]
    have e1 : (dva t (k + 1) * 10 + (bt t (k + 1) - 48)).toNat / 10 = (dva t (k + 1)).toNat := by omega
    rw [e1, h3, seg_snoc t (Nat.zero_le (k + 1))]
    congr 2
    omega
theorem dd_dvx {s : ByteArray} {i j : Nat} (hi : i ≤ s.size) (h : dgs s i = .ok j) : dd (dvx s i j).toNat = seg s i j ∧ 0 ≤ dvx s i j ∧ (bt s i ≠ 48 → 1 ≤ dvx s i j) := by
  obtain ⟨h1, h2, h3, h4⟩ := dgs_ok hi h
  obtain ⟨g1, g2, g3⟩ := dgs_dig hi h
  have hsz := size_ext s i j h3
  have hb0 : bt (s.extract i j) 0 = bt s i := bt_ext s i j 0 h3 (by omega)
  have hseg : seg (s.extract i j) 0 (j - i) = seg s i j := by
    unfold seg
    rw [Nat.sub_zero]
    apply List.map_congr_left
    intro k hk
    rw [Nat.zero_add]
    exact bt_ext s i j k h3 (List.mem_range.1 hk)
  by_cases h48 : bt s i = 48
  · have hj : j = i + 1 := by
      unfold dgs at h
      rw [pk_bt (by omega)] at h
      split at h
      · cases h
      · first
          | (cases h; rfl)
          | (rw [if_pos h48] at h; cases h; rfl)
    subst hj
    have e : dvx s i (i + 1) = 0 := by
      unfold dvx
      rw [hsz, show i + 1 - i = 0 + 1 by omega]
      simp [dva, hb0, h48]
    refine ⟨?_, by omega, fun e => absurd h48 e⟩
    rw [e, seg_one, h48, show Int.toNat 0 = 0 from rfl, dd_small (by decide)]
    rfl
  · obtain ⟨m, hm⟩ : ∃ m, j - i = m + 1 := ⟨j - i - 1, by omega⟩
    obtain ⟨k1, k2⟩ := dd_dva (s.extract i j) g3 (by rw [hb0]; exact h48) m (by omega)
    rw [← hm] at k1 k2
    unfold dvx
    rw [hsz]
    exact ⟨k2.trans hseg, by omega, fun _ => k1⟩
theorem di_itg {s : ByteArray} {i j : Nat} {v : Int} (hi : i ≤ s.size) (h : itg s i = .ok (v, j)) (hv : inR v = true) : di v = seg s i j ∧ i < j ∧ j ≤ s.size := by
  unfold itg at h
  simp only [inR, Bool.and_eq_true, decide_eq_true_eq] at hv
  split at h
  · rename_i h45
    have hlt : i < s.size := lt_of_pk (by rw [h45]; decide)
    split at h
    · cases h
    · rename_i h48
      split at h
      · cases h
      · rename_i j' hd
        cases h
        obtain ⟨h1, h2, h3, h4⟩ := dgs_ok (by omega) hd
        obtain ⟨k1, k2, k3⟩ := dd_dvx (by omega) hd
        have k4 := k3 (by rw [← pk_bt (by omega)]; exact h48)
        have e : negV (dvx s (i + 1) j) = -((dvx s (i + 1) j).toNat : Int) := by
          unfold negV at hv ⊢
          split
          · omega
          · rename_i hn; rw [if_neg hn] at hv; omega
        refine ⟨?_, by omega, h3⟩
        rw [e, di, Lib.itoa_neg _ (by omega), List.map_cons, seg_cons s (show i < j by omega), ← k1, pk_bt' h45 (by decide)]
        rfl
  · split at h
    · cases h
    · rename_i j' hd
      cases h
      obtain ⟨h1, h2, h3, h4⟩ := dgs_ok hi hd
      obtain ⟨k1, k2, k3⟩ := dd_dvx hi hd
      have e : posV (dvx s i j) = ((dvx s i j).toNat : Int) := by
        unfold posV at hv ⊢
        split
        · omega
        · rename_i hn; rw [if_neg hn] at hv; omega
      refine ⟨?_, by omega, h3⟩
      rw [e, di, Lib.itoa_nonneg]
      exact k1
theorem fit_eq {M v : Int} (h : 1 ≤ fitV M v) : fitV M v = v := by
  unfold fitV at h ⊢; split <;> rename_i hh
  · rfl
  · rw [if_neg hh] at h; omega
theorem ids_seg {s : ByteArray} {i j : Nat} {a c d : Int} (hi : i ≤ s.size) (h : ids s i = .ok (a, c, d, j)) (hv : idOk a c d = true) :
    di a ++ [46] ++ dd c.toNat ++ [46] ++ dd d.toNat = seg s i j ∧ i < j ∧ j ≤ s.size ∧ 1 ≤ a ∧ a ≤ 64 ∧ 1 ≤ c ∧ c ≤ 4294967295 ∧ 1 ≤ d ∧ d ≤ 18446744073709551615 := by
  unfold ids at h
  simp only [idOk, Bool.and_eq_true, decide_eq_true_eq] at hv
  obtain ⟨v1, v2, v3, v4⟩ := hv
  split at h
  · cases h
  · rename_i j1 hd1
    split at h
    · rename_i h46
      split at h
      · cases h
      · rename_i j2 hd2
        split at h
        · rename_i h46'
          split at h
          · cases h
          · rename_i j3 hd3
            cases h
            obtain ⟨p1, p2, p3, p4⟩ := dgs_ok hi hd1
            have l1 : j1 < s.size := lt_of_pk (by rw [h46]; decide)
            obtain ⟨q1, q2, q3, q4⟩ := dgs_ok (by omega) hd2
            have l2 : j2 < s.size := lt_of_pk (by rw [h46']; decide)
            obtain ⟨r1, r2, r3, r4⟩ := dgs_ok (by omega) hd3
            obtain ⟨m1, m2, _⟩ := dd_dvx hi hd1
            obtain ⟨n1, n2, _⟩ := dd_dvx (by omega) hd2
            obtain ⟨o1, o2, _⟩ := dd_dvx (by omega) hd3
            have b1 : fitV 2147483647 (dvx s i j1) = dvx s i j1 := fit_eq v1
            have b2 : fitV 4294967295 (dvx s (j1 + 1) j2) = dvx s (j1 + 1) j2 := fit_eq v3
            have b3 : fitV 18446744073709551615 (dvx s (j2 + 1) j) = dvx s (j2 + 1) j := fit_eq v4
            have c2 : fitV 4294967295 (dvx s (j1 + 1) j2) ≤ 4294967295 := by unfold fitV; split <;> omega
            have c3 : fitV 18446744073709551615 (dvx s (j2 + 1) j) ≤ 18446744073709551615 := by unfold fitV; split <;> omega
            refine ⟨?_, by omega, r3, v1, v2, v3, c2, v4, c3⟩
            rw [b1, b2, b3, di_pos m2, m1, n1, o1]
            have f1 : seg s i j1 ++ [46] = seg s i (j1 + 1) := by rw [seg_snoc s (by omega), pk_bt' h46 (by decide)]
            have f2 : seg s (j1 + 1) j2 ++ [46] = seg s (j1 + 1) (j2 + 1) := by rw [seg_snoc s (by omega), pk_bt' h46' (by decide)]
            rw [f1, List.append_assoc, List.append_assoc, ← List.append_assoc (seg s (j1 + 1) j2), f2, seg_app s (by omega) (by omega), seg_app s (by omega) (by omega)]
        · cases h
    · cases h

/-! ### Digits of base 16 -/
theorem hx_hexv {c : Int} (h : ¬ hexv c < 0) : ((hx (hexv c).toNat : Nat) : Int) = c ∧ 0 ≤ hexv c ∧ hexv c < 16 := by
  unfold hexv at h ⊢
  split
  · rename_i h1; refine ⟨?_, by omega, by omega⟩
    unfold hx; rw [if_pos (by omega)]; omega
  · split
    · rename_i h1 h2; refine ⟨?_, by omega, by omega⟩
      unfold hx; rw [if_neg (by omega)]; omega
    · rename_i h1 h2; rw [if_neg h1, if_neg h2] at h; omega
theorem hxs_succ (n x : Nat) : hxs (n + 1) x = ((hx (x / 16 ^ n % 16) : Nat) : Int) :: hxs n x := by
  unfold hxs
  rw [List.range_succ_eq_map, List.map_cons, List.map_map]
  congr 1
  · apply List.map_congr_left
    intro q hq
    simp only [Function.comp_apply]
    congr 5
    omega
theorem hexs_seg {s : ByteArray} : ∀ (k i : Nat) (a x : Int) (j : Nat), 0 ≤ a → i ≤ s.size → hexs s k i a = .ok (x, j) → j = i + k ∧ j ≤ s.size ∧ hxs k x.toNat = seg s i j ∧ x.toNat / 16 ^ k = a.toNat ∧ 0 ≤ x
  | 0, i, a, x, j, ha, hi, h => by
    simp [hexs] at h
    obtain ⟨rfl, rfl⟩ := h
    refine ⟨by omega, hi, by rw [seg_nil]; rfl, by simp, ha⟩
  | k + 1, i, a, x, j, ha, hi, h => by
    rw [hexs] at h
    split at h
    · cases h
    · rename_i hh
      have hlt : i < s.size := lt_of_hexv (by omega)
      obtain ⟨e1, e2, e3⟩ := hx_hexv hh
      obtain ⟨k1, k2, k3, k4, k5⟩ := hexs_seg k (i + 1) (a * 16 + hexv (pk s i)) x j (by omega) (by omega) h
      have e4 : (a * 16 + hexv (pk s i)).toNat = a.toNat * 16 + (hexv (pk s i)).toNat := by omega
      refine ⟨by omega, k2, ?_, ?_, k5⟩
      · rw [hxs_succ, k4, e4, show (a.toNat * 16 + (hexv (pk s i)).toNat) % 16 = (hexv (pk s i)).toNat by omega, e1, k3, seg_cons s (show i < j by omega), pk_bt hlt]
      · rw [Nat.pow_succ, ← Nat.div_div_eq_div_mul, k4, e4]; omega
theorem cxs_seg {s : ByteArray} {i j : Nat} {p q : Int} (hi : i ≤ s.size) (h : cxs s i = .ok (p, q, j)) : hxs 16 p.toNat ++ hxs 16 q.toNat = seg s i j ∧ i < j ∧ j ≤ s.size := by
  unfold cxs at h
  split at h
  · cases h
  · rename_i p' j1 h1
    split at h
    · cases h
    · rename_i q' j2 h2
      cases h
      obtain ⟨a1, a2, a3, _⟩ := hexs_seg 16 i 0 p j1 (by decide) hi h1
      obtain ⟨b1, b2, b3, _⟩ := hexs_seg 16 j1 0 q j (by decide) a2 h2
      refine ⟨?_, by omega, b2⟩
      rw [a3, b3, seg_app s (by omega) (by omega)]

/-! ### Bytes in quotes -/
theorem cod_seg {s : ByteArray} {i j : Nat} {c : Int} (h : cod s i = .ok (c, j)) : 0 ≤ c ∧ c < 256 ∧ shw c = false ∧ j = i + 2 ∧ j ≤ s.size ∧ [((hx (c.toNat / 16) : Nat) : Int), ((hx (c.toNat % 16) : Nat) : Int)] = seg s i j := by
  unfold cod at h
  split at h
  · cases h
  · rename_i h1
    split at h
    · cases h
    · split at h
      · cases h
      · rename_i h2
        split at h
        · cases h
        · rename_i h3
          cases h
          obtain ⟨a1, a2, a3⟩ := hx_hexv h1
          obtain ⟨b1, b2, b3⟩ := hx_hexv h2
          have l1 : i < s.size := lt_of_hexv a2
          have l2 : i + 1 < s.size := lt_of_hexv b2
          refine ⟨by omega, by omega, by simpa using h3, rfl, by omega, ?_⟩
          rw [show (hexv (pk s i) * 16 + hexv (pk s (i + 1))).toNat / 16 = (hexv (pk s i)).toNat by omega, show (hexv (pk s i) * 16 + hexv (pk s (i + 1))).toNat % 16 = (hexv (pk s (i + 1))).toNat by omega, a1, b1,
            seg_cons s (show i < i + 2 by omega), seg_one, pk_bt l1, pk_bt l2]
theorem one_seg {s : ByteArray} {i j : Nat} {c : Int} (h : one s i = .ok (c, j)) (h34 : pk s i ≠ 34) : 0 ≤ c ∧ c < 256 ∧ i < j ∧ j ≤ s.size ∧ pb c.toNat = seg s i j := by
  unfold one at h
  split at h
  · cases h
  · rename_i h1
    have hsh : shw (pk s i) = true := by simpa using h1
    have hsh' := hsh
    simp only [shw, Bool.and_eq_true, decide_eq_true_eq] at hsh'
    have l1 : i < s.size := lt_of_pk (by omega)
    split at h
    · rename_i h92
      unfold esc at h
      split at h
      · rename_i hq
        cases h
        have l2 : i + 1 < s.size := lt_of_pk (by rcases hq with hq | hq <;> rw [hq] <;> decide)
        have n0 := pk_nonneg s (i + 1)
        have n1 := pk_lt s (i + 1)
        refine ⟨n0, n1, by omega, by omega, ?_⟩
        rw [seg_cons s (show i < i + 1 + 1 by omega), seg_one, ← pk_bt l1, ← pk_bt l2, h92]
        unfold pb
        rw [if_pos (by omega), Int.toNat_of_nonneg n0]
      · split at h
        · rename_i hq h120
          obtain ⟨a1, a2, a3, a4, a5, a6⟩ := cod_seg h
          have l2 : i + 1 < s.size := lt_of_pk (by rw [h120]; decide)
          refine ⟨a1, a2, by omega, a5, ?_⟩
          have a7 := a3
          simp only [shw, Bool.and_eq_false_iff, decide_eq_false_iff_not] at a7
          unfold pb
          rw [if_neg (by omega), Int.toNat_of_nonneg a1, if_neg (by rw [a3]; decide), seg_cons s (show i < j by omega), seg_cons s (show i + 1 < j by omega), ← pk_bt l1, ← pk_bt l2, h92, h120, ← a6]
        · cases h
    · rename_i h92
      cases h
      have n0 := pk_nonneg s i
      have n1 := pk_lt s i
      refine ⟨n0, n1, by omega, by omega, ?_⟩
      unfold pb
      rw [if_neg (by omega), Int.toNat_of_nonneg n0, if_pos hsh, seg_one, pk_bt l1]
theorem qts_seg {s : ByteArray} : ∀ (k i : Nat) (l m : List Int) (j : Nat), qts s k i l = .ok (m, j) → ∃ r, m = l ++ r ∧ i < j ∧ j ≤ s.size ∧ bt s (j - 1) = 34 ∧ pbs r = seg s i (j - 1) ∧ ∀ c ∈ r, 0 ≤ c ∧ c < 256
  | 0, i, l, m, j, h => by simp [qts] at h
  | k + 1, i, l, m, j, h => by
    rw [qts] at h
    split at h
    · rename_i h34
      cases h
      have l1 : i < s.size := lt_of_pk (by rw [h34]; decide)
      refine ⟨[], by simp, by omega, by omega, ?_, ?_, by simp⟩
      · exact pk_bt' h34 (by decide)
      · rw [Nat.add_sub_cancel, seg_nil]; rfl
    · rename_i h34
      split at h
      · cases h
      · rename_i c j' h1
        obtain ⟨a1, a2, a3, a4, a5⟩ := one_seg h1 h34
        obtain ⟨r, b1, b2, b3, b4, b5, b6⟩ := qts_seg k j' (l ++ [c]) m j h
        refine ⟨c :: r, by rw [b1]; simp, by omega, b3, b4, ?_, ?_⟩
        · show pb c.toNat ++ pbs r = _
          rw [a5, b5, seg_app s (by omega) (by omega)]
        · intro x hx
          rcases List.mem_cons.1 hx with rfl | hx
          · exact ⟨a1, a2⟩
          · exact b6 x hx
theorem qtd_seg {s : ByteArray} {i n j m : Nat} {l : List Int} (h34 : pk s i = 34) (h : qtd s i n = .ok (l, j, m)) : [34] ++ pbs l ++ [34] = seg s i j ∧ i < j ∧ j ≤ s.size ∧ m = n + l.length ∧ m ≤ 4096 ∧ ∀ c ∈ l, 0 ≤ c ∧ c < 256 := by
  unfold qtd at h
  split at h
  · cases h
  · rename_i l' j' h1
    split at h
    · cases h
    · rename_i hm
      cases h
      obtain ⟨r, b1, b2, b3, b4, b5, b6⟩ := qts_seg _ _ _ _ _ h1
      rw [List.nil_append] at b1
      subst b1
      refine ⟨?_, by omega, b3, rfl, by omega, b6⟩
      obtain ⟨j0, rfl⟩ : ∃ j0, j = j0 + 1 := ⟨j - 1, by omega⟩
      rw [Nat.add_sub_cancel] at b4 b5
      rw [b5, seg_snoc s (show i ≤ j0 by omega), seg_cons s (show i < j0 by omega), pk_bt' h34 (by decide), b4]
      rfl
theorem inN_zero : inN 0 = false := by decide
theorem span_first {s : ByteArray} {i : Nat} (h : low (pk s i) = true) : i < span inN s i ∧ i < s.size := by
  have h1 : inN (pk s i) = true := by simp [inN, h]
  obtain ⟨h2, h3⟩ := span_yes h1 inN_zero
  have := span_ge inN s (i + 1)
  exact ⟨by omega, h2⟩
/-! ### Where what is wrong stands -/
theorem dgs_bad {s : ByteArray} {i j : Nat} (hi : i ≤ s.size) (h : dgs s i = .error j) : j ≤ s.size := by
  unfold dgs at h
  have hsp := span_le (p := dig) hi
  split at h
  · cases h; exact hi
  · split at h
    · cases h
    · split at h
      · cases h; omega
      · cases h
theorem itg_bad {s : ByteArray} {i j : Nat} (hi : i ≤ s.size) (h : itg s i = .error j) : j ≤ s.size := by
  unfold itg at h
  split at h
  · rename_i h45
    have hlt : i < s.size := lt_of_pk (by rw [h45]; decide)
    split at h
    · cases h; exact hlt
    · split at h
      · rename_i j' hd; cases h; exact dgs_bad hlt hd
      · cases h
  · split at h
    · rename_i j' hd; cases h; exact dgs_bad hi hd
    · cases h
theorem ids_bad {s : ByteArray} {i j : Nat} (hi : i ≤ s.size) (h : ids s i = .error j) : j ≤ s.size := by
  unfold ids at h
  split at h
  · rename_i j' hd; cases h; exact dgs_bad hi hd
  · rename_i j1 hd1
    have l1 := (dgs_ok hi hd1).2.2.1
    split at h
    · rename_i h46
      have hlt : j1 < s.size := lt_of_pk (by rw [h46]; decide)
      split at h
      · rename_i j' hd; cases h; exact dgs_bad hlt hd
      · rename_i j2 hd2
        have l2 := (dgs_ok hlt hd2).2.2.1
        split at h
        · rename_i h46'
          have hlt2 : j2 < s.size := lt_of_pk (by rw [h46']; decide)
          split at h
          · rename_i j' hd; cases h; exact dgs_bad hlt2 hd
          · cases h
        · cases h; exact l2
    · cases h; exact l1
theorem hexs_bad {s : ByteArray} : ∀ (k i : Nat) (a : Int) (j : Nat), i ≤ s.size → hexs s k i a = .error j → j ≤ s.size
  | 0, i, a, j, hi, h => by simp [hexs] at h
  | k + 1, i, a, j, hi, h => by
    rw [hexs] at h
    split at h
    · cases h; exact hi
    · rename_i hh
      have hlt : i < s.size := lt_of_hexv (by omega)
      exact hexs_bad k (i + 1) _ j hlt h
theorem cxs_bad {s : ByteArray} {i j : Nat} (hi : i ≤ s.size) (h : cxs s i = .error j) : j ≤ s.size := by
  unfold cxs at h
  split at h
  · rename_i j' h1; cases h; exact hexs_bad _ _ _ _ hi h1
  · rename_i p j1 h1
    have l1 := hexs_le 16 i 0 p j1 hi h1
    split at h
    · rename_i j' h2; cases h; exact hexs_bad _ _ _ _ l1 h2
    · cases h
theorem mrk_bad {s : ByteArray} {i j : Nat} (hi : i ≤ s.size) (h : mrk s i = .error j) : j ≤ s.size := by
  unfold mrk at h
  split at h
  · rename_i h1
    have hlt : i < s.size := lt_of_pk (by rw [h1]; decide)
    split at h
    · rename_i j' h2; cases h; exact cxs_bad hlt h2
    · cases h
  · split at h
    · rename_i h1
      have hlt : i < s.size := lt_of_pk (by rw [h1]; decide)
      split at h
      · rename_i j' h2; cases h; exact ids_bad hlt h2
      · cases h
    · split at h
      · rename_i h1
        have hlt : i < s.size := lt_of_pk (by rw [h1]; decide)
        split at h
        · rename_i j' h2; cases h; exact ids_bad hlt h2
        · cases h
      · cases h; exact hi
theorem sgl_bad {s : ByteArray} {i j : Nat} (hi : i ≤ s.size) (h : sgl s i = .error j) : j ≤ s.size := by
  unfold sgl at h
  split at h
  · split at h
    · rename_i j' h2; cases h; exact itg_bad hi h2
    · cases h
  · split at h
    · cases h
    · split at h
      · rename_i h1
        have hlt : i < s.size := lt_of_pk (by rw [h1]; decide)
        exact mrk_bad hlt h
      · cases h; exact hi
theorem one_bad {s : ByteArray} {i j : Nat} (hi : i ≤ s.size) (h : one s i = .error j) : j ≤ s.size := by
  unfold one at h
  split at h
  · cases h; exact hi
  · split at h
    · rename_i h92
      have hlt : i < s.size := lt_of_pk (by rw [h92]; decide)
      unfold esc at h
      split at h
      · cases h
      · split at h
        · rename_i h120
          have hlt2 : i + 1 < s.size := lt_of_pk (by rw [h120]; decide)
          unfold cod at h
          split at h
          · cases h; omega
          · rename_i hx1
            have hlt3 : i + 1 + 1 < s.size := lt_of_hexv (by omega)
            split at h
            · cases h; omega
            · split at h
              · cases h; omega
              · split at h
                · cases h; omega
                · cases h
        · cases h; omega
    · cases h
theorem qts_bad {s : ByteArray} : ∀ (k i : Nat) (l : List Int) (j : Nat), i ≤ s.size → qts s k i l = .error j → j ≤ s.size
  | 0, i, l, j, hi, h => by simp [qts] at h; omega
  | k + 1, i, l, j, hi, h => by
    rw [qts] at h
    split at h
    · cases h
    · split at h
      · rename_i j' h1; cases h; exact one_bad hi h1
      · rename_i c j' h1
        exact qts_bad k j' _ j (one_ok h1).2 h
theorem qtd_bad {s : ByteArray} {i n j : Nat} {c : Int} (hi : i < s.size) (h : qtd s i n = .error (j, c)) : j ≤ s.size ∧ 1 ≤ c := by
  unfold qtd at h
  split at h
  · rename_i j' h1; cases h; exact ⟨qts_bad _ _ _ _ hi h1, by decide⟩
  · split at h
    · cases h; exact ⟨by omega, by decide⟩
    · cases h
end Go.Proofs.YtdmichjhmfinpaaGreatDoor
