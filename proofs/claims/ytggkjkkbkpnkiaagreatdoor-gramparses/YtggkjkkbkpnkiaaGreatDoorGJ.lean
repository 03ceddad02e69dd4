/-
  Carried over from another seat of ours (GJ).
-/
import Derived.Test.YtggkjkkbkpnkiaaGreatDoorGI
import Derived.Shelf.Strings.Fields
set_option linter.unusedVariables false
set_option linter.unusedSimpArgs false
namespace Go.Proofs.YtggkjkkbkpnkiaaGreatDoor
open Go.Shelf
def lays157_ren : Go.Shelf.Ren := ⟨fun | 157 => 73 | 229 => 82 | 199 => 83 | 261 => 90 | 311 => 100 | 312 => 101 | n => n, fun | 9 => 9 | 31 => 101 | 3 => 3 | 5 => 5 | 4 => 4 | 119 => 111 | 0 => 0 | 40 => 113 | 152 => 118 | 21 => 21 | 154 => 120 | 51 => 121 | 141 => 123 | 196 => 130 | 193 => 127 | 198 => 133 | 49 => 131 | 194 => 128 | 201 => 136 | 226 => 144 | 46 => 93 | 227 => 145 | n => n, fun | 0 => 4 | 6 => 5 | n => n⟩
theorem lays157 : Go.Proofs.Lays.n157 Tryz.prog lays157_ren := {
  mixed := by kernel_rfl
  f157 := Tryz.func73.trans (congrArg some (by kernel_rfl))
  f199 := Tryz.func83.trans (congrArg some (by kernel_rfl))
  f229 := Tryz.func82.trans (congrArg some (by kernel_rfl))
  f261 := Tryz.func90.trans (congrArg some (by kernel_rfl))
  f311 := Tryz.func100.trans (congrArg some (by kernel_rfl))
  f312 := Tryz.func101.trans (congrArg some (by kernel_rfl))
  t0 := Tryz.underlying0
  a0 := Tryz.isAgg0
  z0 := Tryz.sizeOf0
  v0 := Tryz.zeroValue0
  t3 := Tryz.underlying3
  a3 := Tryz.isAgg3
  z3 := Tryz.sizeOf3
  v3 := Tryz.zeroValue3
  t4 := Tryz.underlying4
  a4 := Tryz.isAgg4
  z4 := Tryz.sizeOf4
  v4 := Tryz.zeroValue4
  t5 := Tryz.underlying5
  a5 := Tryz.isAgg5
  z5 := Tryz.sizeOf5
  v5 := Tryz.zeroValue5
  t9 := Tryz.underlying9
  a9 := Tryz.isAgg9
  z9 := Tryz.sizeOf9
  v9 := Tryz.zeroValue9
  t21 := Tryz.underlying21
  a21 := Tryz.isAgg21
  z21 := Tryz.sizeOf21
  v21 := Tryz.zeroValue21
  t31 := Tryz.underlying101
  a31 := Tryz.isAgg101
  z31 := Tryz.sizeOf101
  v31 := Tryz.zeroValue101
  t40 := Tryz.underlying113
  a40 := Tryz.isAgg113
  z40 := Tryz.sizeOf113
  v40 := Tryz.zeroValue113
  t46 := Tryz.underlying93
  a46 := Tryz.isAgg93
  z46 := Tryz.sizeOf93
  v46 := Tryz.zeroValue93
  t49 := Tryz.underlying131
  a49 := Tryz.isAgg131
  z49 := Tryz.sizeOf131
  v49 := Tryz.zeroValue131
  t51 := Tryz.underlying121
  a51 := Tryz.isAgg121
  z51 := Tryz.sizeOf121
  v51 := Tryz.zeroValue121
  t119 := Tryz.underlying111
  a119 := Tryz.isAgg111
  z119 := Tryz.sizeOf111
  t141 := Tryz.underlying123
  a141 := Tryz.isAgg123
  z141 := Tryz.sizeOf123
  v141 := Tryz.zeroValue123
  t152 := Tryz.underlying118
  a152 := Tryz.isAgg118
  z152 := Tryz.sizeOf118
  v152 := Tryz.zeroValue118
  t154 := Tryz.underlying120
  a154 := Tryz.isAgg120
  z154 := Tryz.sizeOf120
  v154 := Tryz.zeroValue120
  t193 := Tryz.underlying127
  a193 := Tryz.isAgg127
  z193 := Tryz.sizeOf127
  v193 := Tryz.zeroValue127
  t194 := Tryz.underlying128
  a194 := Tryz.isAgg128
  z194 := Tryz.sizeOf128
  v194 := Tryz.zeroValue128
  t196 := Tryz.underlying130
  a196 := Tryz.isAgg130
  z196 := Tryz.sizeOf130
  v196 := Tryz.zeroValue130
  t198 := Tryz.underlying133
  a198 := Tryz.isAgg133
  z198 := Tryz.sizeOf133
  v198 := Tryz.zeroValue133
  t201 := Tryz.underlying136
  a201 := Tryz.isAgg136
  z201 := Tryz.sizeOf136
  v201 := Tryz.zeroValue136
  t226 := Tryz.underlying144
  a226 := Tryz.isAgg144
  z226 := Tryz.sizeOf144
  v226 := Tryz.zeroValue144
  t227 := Tryz.underlying145
  a227 := Tryz.isAgg145
  z227 := Tryz.sizeOf145
  v227 := Tryz.zeroValue145
  g0 := by kernel_rfl
  g6 := by kernel_rfl }
end Go.Proofs.YtggkjkkbkpnkiaaGreatDoor
namespace Go.Proofs.YtggkjkkbkpnkiaaGreatDoor
open Go.RowKit Go.Maps
variable {x : Kx} {W W' : World} {pb : Nat} {p p' : Ps}

/-- The signs of a level. -/
abbrev sgs0 : List ByteArray := [⟨#[61, 61]⟩, ⟨#[47, 61]⟩, ⟨#[60]⟩, ⟨#[62]⟩, ⟨#[61, 60]⟩, ⟨#[62, 61]⟩]
abbrev sgs1 : List ByteArray := [⟨#[43]⟩, ⟨#[45]⟩]
abbrev sgs2 : List ByteArray := [⟨#[42]⟩, ⟨#[47]⟩, ⟨#[114, 101, 109]⟩]
theorem asL_ok : ∀ c : Fin 256, asL[c.val]? = some (if Lib.isSp (UInt8.ofNat c.val) then 1 else 0) := by decide +kernel
theorem Lv.tab (h : Lv W) : ∀ c : Nat, c < 256 → W.cell? ⟨lays157_ren.g 0, c, none⟩ = some (.int .u8 (if Lib.isSp (UInt8.ofNat c) then 1 else 0)) := by
  obtain ⟨_, t, f, h4⟩ := h
  intro c hc
  have e : lays157_ren.g 0 = 4 := by kernel_rfl
  rw [e]
  simp only [World.cell?, h4]
  have := asL_ok ⟨c, hc⟩
  simp only [List.getElem?_toArray, List.getElem?_map]
  rw [show asL[c]? = _ from this]
  simp
theorem asc0 : ∀ b ∈ lw0.data.toList, b.toNat < 128 := by decide
theorem fields0_c (hL : Lv W) : Calls Tryz.prog 73 #[.string lw0] W fun e w' => e = .returned (.slice (some ⟨W.heap.size, 0, none⟩) 6 6) ∧ w' = W.alloc (.cells (sgs0.map Value.string).toArray 9) :=
  Any.strings_Fields_core lays157 (by kernel_rfl) lw0 W (by decide) (fun j b hb => asc0 b (List.mem_of_getElem? hb)) hL.tab
theorem asc1 : ∀ b ∈ lw1.data.toList, b.toNat < 128 := by decide
theorem fields1_c (hL : Lv W) : Calls Tryz.prog 73 #[.string lw1] W fun e w' => e = .returned (.slice (some ⟨W.heap.size, 0, none⟩) 2 2) ∧ w' = W.alloc (.cells (sgs1.map Value.string).toArray 9) :=
  Any.strings_Fields_core lays157 (by kernel_rfl) lw1 W (by decide) (fun j b hb => asc1 b (List.mem_of_getElem? hb)) hL.tab
theorem asc2 : ∀ b ∈ lw2.data.toList, b.toNat < 128 := by decide
theorem fields2_c (hL : Lv W) : Calls Tryz.prog 73 #[.string lw2] W fun e w' => e = .returned (.slice (some ⟨W.heap.size, 0, none⟩) 3 3) ∧ w' = W.alloc (.cells (sgs2.map Value.string).toArray 9) :=
  Any.strings_Fields_core lays157 (by kernel_rfl) lw2 W (by decide) (fun j b hb => asc2 b (List.mem_of_getElem? hb)) hL.tab

set_option maxRecDepth 100000 in
set_option maxHeartbeats 1600000 in
theorem index_c (h : Pz x W pb p) (g : Nat) (L : List ByteArray) (hg : W.heap[g]? = some (.cells (L.map Value.string).toArray 9 (0, 0))) (hL : L.length ≤ 6) :
    Calls Tryz.prog 81 #[.slice (some ⟨g, 0, none⟩) L.length L.length, .func (.func 48) #[pt pb] #[]] W fun e w' => ∃ r : Int, e = .returned (.int .i64 r) ∧ (0 ≤ r ↔ L.any (isV x.ts p) = true) ∧ Gr (fun _ => False) W w' := by
  have hb := h.lt
  have hgl : g < W.heap.size := (Array.getElem?_eq_some_iff.1 hg).1
  have hcell : ∀ k s, L[k]? = some s → W.cell? ⟨g, k, none⟩ = some (.string s) := by
    intro k s hk
    simp [World.cell?, hg, hk]
  have hLI : (L.length : Int) ≤ 6 := by omega
  replace hL := Lib.hid hL
  replace hcell := Lib.hid hcell
  clear hg
  go_enter Tryz.func81, Tryz.ntmps81
  go_wp2_with fail
  go_loopw [8] (fun u wr => ∃ k : Nat, k ≤ L.length ∧ u = .int .i64 (k : Int) ∧ Hid (L.any (isV x.ts p) = (L.drop k).any (isV x.ts p)) ∧ Gr (fun _ => False) W wr) (fun u _ => L.length - (intOf u).toNat)
  case atStart => exact ⟨0, Nat.zero_le _, rfl, by show _ = _; simp, Gr.refl _ _⟩
  case round =>
    obtain ⟨k, hk, rfl, Hk, hG⟩ := hrel
    by_cases hlt : k < L.length
    · have h1 : (k : Int) < (L.length : Int) := by omega
      have hLk : L[k]? = some L[k] := List.getElem?_eq_getElem hlt
      have hc : wr.cell? ⟨g, k, none⟩ = some (.string L[k]) := cell_gr (hcell.out k _ hLk) hG (fun e => e)
      have hgr : g < wr.heap.size := World.block_lt_of_cell? _ _ hc
      have hdr : Hid (L.drop k = L[k] :: L.drop (k + 1)) := List.drop_eq_getElem_cons hlt
      have hi := is_c (h.g0 hG) L[k]
      generalize L[k] = s at hc hi hdr
      cases hv : isV x.ts p s with
      | true =>
        rw [hv] at hi
        go_wp2_with fail
        refine hi.mono ?_
        rintro e w1 ⟨rfl, g1⟩
        go_wp2_with fail
        go_ret
        exact ⟨_, rfl, ⟨fun _ => by rw [Hk.out, hdr.out, List.any_cons, hv]; rfl, fun _ => by omega⟩, hG.trans g1⟩
      | false =>
        rw [hv] at hi
        go_wp2_with fail
        refine hi.mono ?_
        rintro e w1 ⟨rfl, g1⟩
        go_wp2_with fail
        exact ⟨⟨k + 1, hlt, by go_num, by show _ = _; rw [Hk.out, hdr.out, List.any_cons, hv]; rfl, hG.trans g1⟩, by simp [intOf]; omega⟩
    · have h1 : decide ((k : Int) < (L.length : Int)) = false := by simp; omega
      have hke : k = L.length := by omega
      have hno : L.any (isV x.ts p) = false := by rw [Hk.out, hke, List.drop_length]; rfl
      clear hke
      go_wp2_with fail
      go_ret
      exact ⟨_, rfl, ⟨fun e => absurd e (by decide), fun e => by rw [hno] at e; cases e⟩, hG⟩
set_option maxRecDepth 100000 in
set_option maxHeartbeats 1600000 in
theorem contains_c (h : Pz x W pb p) (g : Nat) (L : List ByteArray) (hg : W.heap[g]? = some (.cells (L.map Value.string).toArray 9 (0, 0))) (hL : L.length ≤ 6) :
    Calls Tryz.prog 72 #[.slice (some ⟨g, 0, none⟩) L.length L.length, .func (.func 48) #[pt pb] #[]] W fun e w' => e = .returned (.bool (L.any (isV x.ts p))) ∧ Gr (fun _ => False) W w' := by
  have hi := index_c h g L hg hL
  clear hg hL
  go_enter Tryz.func72, Tryz.ntmps72
  go_wp2_with fail
  refine hi.mono ?_
  rintro e w1 ⟨r, rfl, hr, g1⟩
  by_cases h0 : 0 ≤ r
  · have ha := hr.1 h0
    go_wp2_with fail
    go_ret
    exact ⟨by rw [ha]; rfl, g1⟩
  · have ha : L.any (isV x.ts p) = false := by
      cases hq : L.any (isV x.ts p) with
      | true => exact absurd (hr.2 hq) h0
      | false => rfl
    have h1 : decide (0 ≤ r) = false := by simpa using h0
    go_wp2_with fail
    go_ret
    exact ⟨by rw [ha]; rfl, g1⟩
end Go.Proofs.YtggkjkkbkpnkiaaGreatDoor


