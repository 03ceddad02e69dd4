/-
  The signs of a level, one by one; is one of them the next token?
-/
import Derived.Test.YtbmbgnmkakkpfaaDoorGI
import Derived.Shelf.Strings.Fields
set_option linter.unusedVariables false
set_option linter.unusedSimpArgs false
namespace Go.Proofs.YtbmbgnmkakkpfaaDoor
open Go.Shelf
def lays157_ren : Go.Shelf.Ren := ⟨fun | 157 => 71 | 229 => 76 | 199 => 77 | 261 => 82 | 311 => 93 | 312 => 94 | n => n, fun | 9 => 9 | 31 => 29 | 3 => 3 | 5 => 5 | 4 => 4 | 119 => 105 | 0 => 0 | 40 => 107 | 152 => 110 | 21 => 21 | 154 => 112 | 51 => 113 | 141 => 115 | 196 => 124 | 193 => 121 | 198 => 127 | 49 => 125 | 194 => 122 | 201 => 130 | 226 => 138 | 46 => 87 | 227 => 139 | n => n, fun | 0 => 4 | 6 => 6 | n => n⟩
theorem lays157 : Go.Proofs.Lays.n157 Tryd.prog lays157_ren := {
  mixed := by kernel_rfl
  f157 := Tryd.func71.trans (congrArg some (by kernel_rfl))
  f199 := Tryd.func77.trans (congrArg some (by kernel_rfl))
  f229 := Tryd.func76.trans (congrArg some (by kernel_rfl))
  f261 := Tryd.func82.trans (congrArg some (by kernel_rfl))
  f311 := Tryd.func93.trans (congrArg some (by kernel_rfl))
  f312 := Tryd.func94.trans (congrArg some (by kernel_rfl))
  t0 := Tryd.underlying0
  a0 := Tryd.isAgg0
  z0 := Tryd.sizeOf0
  v0 := Tryd.zeroValue0
  t3 := Tryd.underlying3
  a3 := Tryd.isAgg3
  z3 := Tryd.sizeOf3
  v3 := Tryd.zeroValue3
  t4 := Tryd.underlying4
  a4 := Tryd.isAgg4
  z4 := Tryd.sizeOf4
  v4 := Tryd.zeroValue4
  t5 := Tryd.underlying5
  a5 := Tryd.isAgg5
  z5 := Tryd.sizeOf5
  v5 := Tryd.zeroValue5
  t9 := Tryd.underlying9
  a9 := Tryd.isAgg9
  z9 := Tryd.sizeOf9
  v9 := Tryd.zeroValue9
  t21 := Tryd.underlying21
  a21 := Tryd.isAgg21
  z21 := Tryd.sizeOf21
  v21 := Tryd.zeroValue21
  t31 := Tryd.underlying29
  a31 := Tryd.isAgg29
  z31 := Tryd.sizeOf29
  v31 := Tryd.zeroValue29
  t40 := Tryd.underlying107
  a40 := Tryd.isAgg107
  z40 := Tryd.sizeOf107
  v40 := Tryd.zeroValue107
  t46 := Tryd.underlying87
  a46 := Tryd.isAgg87
  z46 := Tryd.sizeOf87
  v46 := Tryd.zeroValue87
  t49 := Tryd.underlying125
  a49 := Tryd.isAgg125
  z49 := Tryd.sizeOf125
  v49 := Tryd.zeroValue125
  t51 := Tryd.underlying113
  a51 := Tryd.isAgg113
  z51 := Tryd.sizeOf113
  v51 := Tryd.zeroValue113
  t119 := Tryd.underlying105
  a119 := Tryd.isAgg105
  z119 := Tryd.sizeOf105
  t141 := Tryd.underlying115
  a141 := Tryd.isAgg115
  z141 := Tryd.sizeOf115
  v141 := Tryd.zeroValue115
  t152 := Tryd.underlying110
  a152 := Tryd.isAgg110
  z152 := Tryd.sizeOf110
  v152 := Tryd.zeroValue110
  t154 := Tryd.underlying112
  a154 := Tryd.isAgg112
  z154 := Tryd.sizeOf112
  v154 := Tryd.zeroValue112
  t193 := Tryd.underlying121
  a193 := Tryd.isAgg121
  z193 := Tryd.sizeOf121
  v193 := Tryd.zeroValue121
  t194 := Tryd.underlying122
  a194 := Tryd.isAgg122
  z194 := Tryd.sizeOf122
  v194 := Tryd.zeroValue122
  t196 := Tryd.underlying124
  a196 := Tryd.isAgg124
  z196 := Tryd.sizeOf124
  v196 := Tryd.zeroValue124
  t198 := Tryd.underlying127
  a198 := Tryd.isAgg127
  z198 := Tryd.sizeOf127
  v198 := Tryd.zeroValue127
  t201 := Tryd.underlying130
  a201 := Tryd.isAgg130
  z201 := Tryd.sizeOf130
  v201 := Tryd.zeroValue130
  t226 := Tryd.underlying138
  a226 := Tryd.isAgg138
  z226 := Tryd.sizeOf138
  v226 := Tryd.zeroValue138
  t227 := Tryd.underlying139
  a227 := Tryd.isAgg139
  z227 := Tryd.sizeOf139
  v227 := Tryd.zeroValue139
  g0 := by kernel_rfl
  g6 := by kernel_rfl }
end Go.Proofs.YtbmbgnmkakkpfaaDoor
namespace Go.Proofs.YtbmbgnmkakkpfaaDoor
open Go.RowKit Go.Maps
variable {x : Kx} {W W' : World} {pb : Nat} {p p' : Ps}

/-- The signs of a level. -/
abbrev sgs0 : List ByteArray := [⟨#[61, 61]⟩, ⟨#[47, 61]⟩, ⟨#[60]⟩, ⟨#[62]⟩, ⟨#[61, 60]⟩, ⟨#[62, 61]⟩]
abbrev sgs1 : List ByteArray := [⟨#[43]⟩, ⟨#[45]⟩]
abbrev sgs2 : List ByteArray := [⟨#[42]⟩, ⟨#[47]⟩, ⟨#[114, 101, 109]⟩]
theorem asL_ok : ∀ c : Fin 256, asL[c.val]? = some (if Lib.isSp (UInt8.ofNat c.val) then 1 else 0) := by decide +kernel
theorem Lv.tab (h : Lv W) : ∀ c : Nat, c < 256 → W.cell? ⟨lays157_ren.g 0, c, none⟩ = some (.int .u8 (if Lib.isSp (UInt8.ofNat c) then 1 else 0)) := by
  obtain ⟨_, t, f, h4⟩ := h
  intro c hc
  have e : lays157_ren.g 0 = 4 := by kernel_rfl
  rw [e]
  simp only [World.cell?, h4]
  have := asL_ok ⟨c, hc⟩
  simp only [List.getElem?_toArray, List.getElem?_map]
  rw [show asL[c]? = _ from this]
  simp
theorem asc0 : ∀ b ∈ lw0.data.toList, b.toNat < 128 := by decide
theorem fields0_c (hL : Lv W) : Calls Tryd.prog 71 #[.string lw0] W fun e w' => e = .returned (.slice (some ⟨W.heap.size, 0, none⟩) 6 6) ∧ w' = W.alloc (.cells (sgs0.map Value.string).toArray 9) :=
  Any.strings_Fields_core lays157 (by kernel_rfl) lw0 W (by decide) (fun j b hb => asc0 b (List.mem_of_getElem? hb)) hL.tab
theorem asc1 : ∀ b ∈ lw1.data.toList, b.toNat < 128 := by decide
theorem fields1_c (hL : Lv W) : Calls Tryd.prog 71 #[.string lw1] W fun e w' => e = .returned (.slice (some ⟨W.heap.size, 0, none⟩) 2 2) ∧ w' = W.alloc (.cells (sgs1.map Value.string).toArray 9) :=
  Any.strings_Fields_core lays157 (by kernel_rfl) lw1 W (by decide) (fun j b hb => asc1 b (List.mem_of_getElem? hb)) hL.tab
theorem asc2 : ∀ b ∈ lw2.data.toList, b.toNat < 128 := by decide
theorem fields2_c (hL : Lv W) : Calls Tryd.prog 71 #[.string lw2] W fun e w' => e = .returned (.slice (some ⟨W.heap.size, 0, none⟩) 3 3) ∧ w' = W.alloc (.cells (sgs2.map Value.string).toArray 9) :=
  Any.strings_Fields_core lays157 (by kernel_rfl) lw2 W (by decide) (fun j b hb => asc2 b (List.mem_of_getElem? hb)) hL.tab

set_option maxRecDepth 100000 in
set_option maxHeartbeats 1600000 in
theorem index_c (h : Pz x W pb p) (g : Nat) (L : List ByteArray) (hg : W.heap[g]? = some (.cells (L.map Value.string).toArray 9 (0, 0))) (hL : L.length ≤ 6) :
    Calls Tryd.prog 75 #[.slice (some ⟨g, 0, none⟩) L.length L.length, .func (.func 52) #[pt pb] #[]] W fun e w' => ∃ r : Int, e = .returned (.int .i64 r) ∧ (0 ≤ r ↔ L.any (isV x.ts p) = true) ∧ Gr (fun _ => False) W w' := by
  have hb := h.lt
  have hgl : g < W.heap.size := (Array.getElem?_eq_some_iff.1 hg).1
  have hcell : ∀ k s, L[k]? = some s → W.cell? ⟨g, k, none⟩ = some (.string s) := by
    intro k s hk
    simp [World.cell?, hg, hk]
  have hLI : (L.length : Int) ≤ 6 := by omega
  replace hL := Lib.hid hL
  replace hcell := Lib.hid hcell
  clear hg
  go_enter Tryd.func75, Tryd.ntmps75
  go_wp2_with fail
  go_loopw [8] (fun u wr => ∃ k : Nat, k ≤ L.length ∧ u = .int .i64 (k : Int) ∧ Hid (L.any (isV x.ts p) = (L.drop k).any (isV x.ts p)) ∧ Gr (fun _ => False) W wr) (fun u _ => L.length - (intOf u).toNat)
  case atStart => exact ⟨0, Nat.zero_le _, rfl, by show _ = _; simp, Gr.refl _ _⟩
  case round =>
    obtain ⟨k, hk, rfl, Hk, hG⟩ := hrel
    by_cases hlt : k < L.length
    · have h1 : (k : Int) < (L.length : Int) := by omega
      have hLk : L[k]? = some L[k] := List.getElem?_eq_getElem hlt
      have hc : wr.cell? ⟨g, k, none⟩ = some (.string L[k]) := cell_gr (hcell.out k _ hLk) hG (fun e => e)
      have hgr : g < wr.heap.size := World.block_lt_of_cell? _ _ hc
      have hdr : Hid (L.drop k = L[k] :: L.drop (k + 1)) := List.drop_eq_getElem_cons hlt
      have hi := is_c (h.g0 hG) L[k]
      generalize L[k] = s at hc hi hdr
      cases hv : isV x.ts p s with
      | true =>
        rw [hv] at hi
        go_wp2_with fail
        refine hi.mono ?_
        rintro e w1 ⟨rfl, g1⟩
        go_wp2_with fail
        go_ret
        exact ⟨_, rfl, ⟨fun _ => by rw [Hk.out, hdr.out, List.any_cons, hv]; rfl, fun _ => by omega⟩, hG.trans g1⟩
      | false =>
        rw [hv] at hi
        go_wp2_with fail
        refine hi.mono ?_
        rintro e w1 ⟨rfl, g1⟩
        go_wp2_with fail
        exact ⟨⟨k + 1, hlt, by go_num, by show _ = _; rw [Hk.out, hdr.out, List.any_cons, hv]; rfl, hG.trans g1⟩, by simp [intOf]; omega⟩
    · have h1 : decide ((k : Int) < (L.length : Int)) = false := by simp; omega
      have hke : k = L.length := by omega
      have hno : L.any (isV x.ts p) = false := by rw [Hk.out, hke, List.drop_length]; rfl
      clear hke
      go_wp2_with fail
      go_ret
      exact ⟨_, rfl, ⟨fun e => absurd e (by decide), fun e => by rw [hno] at e; cases e⟩, hG⟩
set_option maxRecDepth 100000 in
set_option maxHeartbeats 1600000 in
theorem contains_c (h : Pz x W pb p) (g : Nat) (L : List ByteArray) (hg : W.heap[g]? = some (.cells (L.map Value.string).toArray 9 (0, 0))) (hL : L.length ≤ 6) :
    Calls Tryd.prog 70 #[.slice (some ⟨g, 0, none⟩) L.length L.length, .func (.func 52) #[pt pb] #[]] W fun e w' => e = .returned (.bool (L.any (isV x.ts p))) ∧ Gr (fun _ => False) W w' := by
  have hi := index_c h g L hg hL
  clear hg hL
  go_enter Tryd.func70, Tryd.ntmps70
  go_wp2_with fail
  refine hi.mono ?_
  rintro e w1 ⟨r, rfl, hr, g1⟩
  by_cases h0 : 0 ≤ r
  · have ha := hr.1 h0
    go_wp2_with fail
    go_ret
    exact ⟨by rw [ha]; rfl, g1⟩
  · have ha : L.any (isV x.ts p) = false := by
      cases hq : L.any (isV x.ts p) with
      | true => exact absurd (hr.2 hq) h0
      | false => rfl
    have h1 : decide (0 ≤ r) = false := by simpa using h0
    go_wp2_with fail
    go_ret
    exact ⟨by rw [ha]; rfl, g1⟩
end Go.Proofs.YtbmbgnmkakkpfaaDoor
