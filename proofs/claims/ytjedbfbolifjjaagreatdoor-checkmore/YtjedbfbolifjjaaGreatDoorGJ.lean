/-
  Carried over from another seat of ours (GJ).
  Carried over from another seat of ours (GK).
-/
import Derived.Test.YtjedbfbolifjjaaGreatDoorGH
import Derived.Shelf.Strings.Fields
set_option linter.unusedVariables false
set_option linter.unusedSimpArgs false
namespace Go.Proofs.YtjedbfbolifjjaaGreatDoor
open Go.Shelf
def lays157_ren : Go.Shelf.Ren := ⟨fun | 157 => 143 | 229 => 148 | 199 => 149 | 261 => 154 | 311 => 165 | 312 => 166 | n => n, fun | 9 => 9 | 31 => 39 | 3 => 3 | 5 => 5 | 4 => 4 | 119 => 145 | 0 => 0 | 40 => 147 | 152 => 150 | 21 => 21 | 154 => 152 | 51 => 153 | 141 => 155 | 196 => 164 | 193 => 161 | 198 => 167 | 49 => 165 | 194 => 162 | 201 => 170 | 226 => 177 | 46 => 127 | 227 => 178 | n => n, fun | 0 => 5 | 6 => 7 | n => n⟩
theorem lays157 : Go.Proofs.Lays.n157 Tryz.prog lays157_ren := {
 mixed := by kernel_rfl
 f157 := Tryz.func143.trans (congrArg some (by kernel_rfl))
 f199 := Tryz.func149.trans (congrArg some (by kernel_rfl))
 f229 := Tryz.func148.trans (congrArg some (by kernel_rfl))
 f261 := Tryz.func154.trans (congrArg some (by kernel_rfl))
 f311 := Tryz.func165.trans (congrArg some (by kernel_rfl))
 f312 := Tryz.func166.trans (congrArg some (by kernel_rfl))
 t0 := Tryz.underlying0
 a0 := Tryz.isAgg0
 z0 := Tryz.sizeOf0
 v0 := Tryz.zeroValue0
 t3 := Tryz.underlying3
 a3 := Tryz.isAgg3
 z3 := Tryz.sizeOf3
 v3 := Tryz.zeroValue3
 t4 := Tryz.underlying4
 a4 := Tryz.isAgg4
 z4 := Tryz.sizeOf4
 v4 := Tryz.zeroValue4
 t5 := Tryz.underlying5
 a5 := Tryz.isAgg5
 z5 := Tryz.sizeOf5
 v5 := Tryz.zeroValue5
 t9 := Tryz.underlying9
 a9 := Tryz.isAgg9
 z9 := Tryz.sizeOf9
 v9 := Tryz.zeroValue9
 t21 := Tryz.underlying21
 a21 := Tryz.isAgg21
 z21 := Tryz.sizeOf21
 v21 := Tryz.zeroValue21
 t31 := Tryz.underlying39
 a31 := Tryz.isAgg39
 z31 := Tryz.sizeOf39
 v31 := Tryz.zeroValue39
 t40 := Tryz.underlying147
 a40 := Tryz.isAgg147
 z40 := Tryz.sizeOf147
 v40 := Tryz.zeroValue147
 t46 := Tryz.underlying127
 a46 := Tryz.isAgg127
 z46 := Tryz.sizeOf127
 v46 := Tryz.zeroValue127
 t49 := Tryz.underlying165
 a49 := Tryz.isAgg165
 z49 := Tryz.sizeOf165
 v49 := Tryz.zeroValue165
 t51 := Tryz.underlying153
 a51 := Tryz.isAgg153
 z51 := Tryz.sizeOf153
 v51 := Tryz.zeroValue153
 t119 := Tryz.underlying145
 a119 := Tryz.isAgg145
 z119 := Tryz.sizeOf145
 t141 := Tryz.underlying155
 a141 := Tryz.isAgg155
 z141 := Tryz.sizeOf155
 v141 := Tryz.zeroValue155
 t152 := Tryz.underlying150
 a152 := Tryz.isAgg150
 z152 := Tryz.sizeOf150
 v152 := Tryz.zeroValue150
 t154 := Tryz.underlying152
 a154 := Tryz.isAgg152
 z154 := Tryz.sizeOf152
 v154 := Tryz.zeroValue152
 t193 := Tryz.underlying161
 a193 := Tryz.isAgg161
 z193 := Tryz.sizeOf161
 v193 := Tryz.zeroValue161
 t194 := Tryz.underlying162
 a194 := Tryz.isAgg162
 z194 := Tryz.sizeOf162
 v194 := Tryz.zeroValue162
 t196 := Tryz.underlying164
 a196 := Tryz.isAgg164
 z196 := Tryz.sizeOf164
 v196 := Tryz.zeroValue164
 t198 := Tryz.underlying167
 a198 := Tryz.isAgg167
 z198 := Tryz.sizeOf167
 v198 := Tryz.zeroValue167
 t201 := Tryz.underlying170
 a201 := Tryz.isAgg170
 z201 := Tryz.sizeOf170
 v201 := Tryz.zeroValue170
 t226 := Tryz.underlying177
 a226 := Tryz.isAgg177
 z226 := Tryz.sizeOf177
 v226 := Tryz.zeroValue177
 t227 := Tryz.underlying178
 a227 := Tryz.isAgg178
 z227 := Tryz.sizeOf178
 v227 := Tryz.zeroValue178
 g0 := by kernel_rfl
 g6 := by kernel_rfl }
end Go.Proofs.YtjedbfbolifjjaaGreatDoor
namespace Go.Proofs.YtjedbfbolifjjaaGreatDoor
open Go.RowKit Go.Maps
variable {x : Kx} {W W' : World} {pb : Nat} {p p' : Ps}
/-- The signs of a level. -/
abbrev sgs0 : List ByteArray := [⟨#[61, 61]⟩, ⟨#[47, 61]⟩, ⟨#[60]⟩, ⟨#[62]⟩, ⟨#[61, 60]⟩, ⟨#[62, 61]⟩]
abbrev sgs1 : List ByteArray := [⟨#[43]⟩, ⟨#[45]⟩]
abbrev sgs2 : List ByteArray := [⟨#[42]⟩, ⟨#[47]⟩, ⟨#[114, 101, 109]⟩]
theorem asL_ok : ∀ c : Fin 256, asL[c.val]? = some (if Lib.isSp (UInt8.ofNat c.val) then 1 else 0) := by decide +kernel
theorem Lv.tab (h : Lv W) : ∀ c : Nat, c < 256 → W.cell? ⟨lays157_ren.g 0, c, none⟩ = some (.int .u8 (if Lib.isSp (UInt8.ofNat c) then 1 else 0)) := by
 obtain ⟨_, t, f, h4⟩ := h
 intro c hc
 have e : lays157_ren.g 0 = 5 := by kernel_rfl
 rw [e]
 simp only [World.cell?, h4]
 have := asL_ok ⟨c, hc⟩
 simp only [List.getElem?_toArray, List.getElem?_map]
 rw [show asL[c]? = _ from this]
 simp
theorem asc0 : ∀ b ∈ lw0.data.toList, b.toNat < 128 := by decide
theorem fields0_c (hL : Lv W) : Calls Tryz.prog 143 #[.string lw0] W fun e w' => e = .returned (.slice (some ⟨W.heap.size, 0, none⟩) 6 6) ∧ w' = W.alloc (.cells (sgs0.map Value.string).toArray 9) :=
 Any.strings_Fields_core lays157 (by kernel_rfl) lw0 W (by decide) (fun j b hb => asc0 b (List.mem_of_getElem? hb)) hL.tab
theorem asc1 : ∀ b ∈ lw1.data.toList, b.toNat < 128 := by decide
theorem fields1_c (hL : Lv W) : Calls Tryz.prog 143 #[.string lw1] W fun e w' => e = .returned (.slice (some ⟨W.heap.size, 0, none⟩) 2 2) ∧ w' = W.alloc (.cells (sgs1.map Value.string).toArray 9) :=
 Any.strings_Fields_core lays157 (by kernel_rfl) lw1 W (by decide) (fun j b hb => asc1 b (List.mem_of_getElem? hb)) hL.tab
theorem asc2 : ∀ b ∈ lw2.data.toList, b.toNat < 128 := by decide
theorem fields2_c (hL : Lv W) : Calls Tryz.prog 143 #[.string lw2] W fun e w' => e = .returned (.slice (some ⟨W.heap.size, 0, none⟩) 3 3) ∧ w' = W.alloc (.cells (sgs2.map Value.string).toArray 9) :=
 Any.strings_Fields_core lays157 (by kernel_rfl) lw2 W (by decide) (fun j b hb => asc2 b (List.mem_of_getElem? hb)) hL.tab

set_option maxRecDepth 100000 in
set_option maxHeartbeats 1600000 in
theorem index_c (h : Pz x W pb p) (g : Nat) (L : List ByteArray) (hg : W.heap[g]? = some (.cells (L.map Value.string).toArray 9 (0, 0))) (hL : L.length ≤ 6) :
 Calls Tryz.prog 147 #[.slice (some ⟨g, 0, none⟩) L.length L.length, .func (.func 124) #[pt pb] #[]] W fun e w' => ∃ r : Int, e = .returned (.int .i64 r) ∧ (0 ≤ r ↔ L.any (isV x.ts p) = true) ∧ Gr (fun _ => False) W w' := by
 have hb := h.lt
 have hgl : g < W.heap.size := (Array.getElem?_eq_some_iff.1 hg).1
 have hcell : ∀ k s, L[k]? = some s → W.cell? ⟨g, k, none⟩ = some (.string s) := by
  intro k s hk
  simp [World.cell?, hg, hk]
 have hLI : (L.length : Int) ≤ 6 := by omega
 replace hL := Lib.hid hL
 replace hcell := Lib.hid hcell
 clear hg
 go_enter Tryz.func147, Tryz.ntmps147
 go_wp2_with fail
 go_loopw [8] (fun u wr => ∃ k : Nat, k ≤ L.length ∧ u = .int .i64 (k : Int) ∧ Hid (L.any (isV x.ts p) = (L.drop k).any (isV x.ts p)) ∧ Gr (fun _ => False) W wr) (fun u _ => L.length - (intOf u).toNat)
 case atStart => exact ⟨0, Nat.zero_le _, rfl, by show _ = _; simp, Gr.refl _ _⟩
 case round =>
  obtain ⟨k, hk, rfl, Hk, hG⟩ := hrel
  by_cases hlt : k < L.length
  ·
   have h1 : (k : Int) < (L.length : Int) := by omega
   have hLk : L[k]? = some L[k] := List.getElem?_eq_getElem hlt
   have hc : wr.cell? ⟨g, k, none⟩ = some (.string L[k]) := cell_gr (hcell.out k _ hLk) hG (fun e => e)
   have hgr : g < wr.heap.size := World.block_lt_of_cell? _ _ hc
   have hdr : Hid (L.drop k = L[k] :: L.drop (k + 1)) := List.drop_eq_getElem_cons hlt
   have hi := is_c (h.g0 hG) L[k]
   generalize L[k] = s at hc hi hdr
   cases hv : isV x.ts p s with
   | true =>
    rw [hv] at hi
    go_wp2_with fail
    refine hi.mono ?_
    rintro e w1 ⟨rfl, g1⟩
    go_wp2_with fail
    go_ret
    exact ⟨_, rfl, ⟨fun _ => by rw [Hk.out, hdr.out, List.any_cons, hv]; rfl, fun _ => by omega⟩, hG.trans g1⟩
   | false =>
    rw [hv] at hi
    go_wp2_with fail
    refine hi.mono ?_
    rintro e w1 ⟨rfl, g1⟩
    go_wp2_with fail
    exact ⟨⟨k + 1, hlt, by go_num, by show _ = _; rw [Hk.out, hdr.out, List.any_cons, hv]; rfl, hG.trans g1⟩, by simp [intOf]; omega⟩
  ·
   have h1 : decide ((k : Int) < (L.length : Int)) = false := by simp; omega
   have hke : k = L.length := by omega
   have hno : L.any (isV x.ts p) = false := by rw [Hk.out, hke, List.drop_length]; rfl
   clear hke
   go_wp2_with fail
   go_ret
   exact ⟨_, rfl, ⟨fun e => absurd e (by decide), fun e => by rw [hno] at e; cases e⟩, hG⟩
set_option maxRecDepth 100000 in
set_option maxHeartbeats 1600000 in
theorem contains_c (h : Pz x W pb p) (g : Nat) (L : List ByteArray) (hg : W.heap[g]? = some (.cells (L.map Value.string).toArray 9 (0, 0))) (hL : L.length ≤ 6) :
 Calls Tryz.prog 142 #[.slice (some ⟨g, 0, none⟩) L.length L.length, .func (.func 124) #[pt pb] #[]] W fun e w' => e = .returned (.bool (L.any (isV x.ts p))) ∧ Gr (fun _ => False) W w' := by
 have hi := index_c h g L hg hL
 clear hg hL
 go_enter Tryz.func142, Tryz.ntmps142
 go_wp2_with fail
 refine hi.mono ?_
 rintro e w1 ⟨r, rfl, hr, g1⟩
 by_cases h0 : 0 ≤ r
 · have ha := hr.1 h0
   go_wp2_with fail
   go_ret
   exact ⟨by rw [ha]; rfl, g1⟩
 ·
  have ha : L.any (isV x.ts p) = false := by
   cases hq : L.any (isV x.ts p) with
   | true => exact absurd (hr.2 hq) h0
   | false => rfl
  have h1 : decide (0 ≤ r) = false := by simpa using h0
  go_wp2_with fail
  go_ret
  exact ⟨by rw [ha]; rfl, g1⟩
end Go.Proofs.YtjedbfbolifjjaaGreatDoor

namespace Go.Proofs.YtjedbfbolifjjaaGreatDoor
open Go.RowKit Go.Maps
variable {x : Kx} {W W' : World} {pb : Nat} {p p' : Ps}
def joinL (ts : List Tn) (sg : List ByteArray) (g : Rule) : Nat → Tr → Ps → Tr × Ps
 | 0, t, p => (t, p)
 | f + 1, t, p => if sg.any (isV ts p) = true then joinL ts sg g f (.mk 8 (pkT ts p).s 0 [] [t, (g p.next).1]) (g p.next).2 else (t, p)
def joinV (ts : List Tn) (sg : List ByteArray) (g : Rule) (f : Nat) (p : Ps) : Tr × Ps := joinL ts sg g f (g p).1 (g p).2
abbrev dwn (u1 u3 : Nat) : Value := .func (.func 140) #[] #[pt u1, pt u3]
/-- What the closure does at a level. -/
def DownOk (x : Kx) (lev : Int) (d : Nat) (g : Rule) : Prop := ∀ (W : World) (pb : Nat) (p : Ps) (u1 u3 : Nat), Pz x W pb p → p.d = d → W.cell? ⟨u1, 0, none⟩ = some (pt pb) → W.cell? ⟨u3, 0, none⟩ = some (dwn u1 u3) → u1 ≠ pb → u3 ≠ pb →
 Calls Tryz.prog 140 #[.int .i64 lev, pt u1, pt u3] W fun e w' => EndR x W pb p e w' (g p)
set_option maxRecDepth 100000 in
set_option maxHeartbeats 1600000 in
theorem down3_c (d : Nat) (u : Rule) (hu : RuleOk x 141 d u) : DownOk x 3 d u := by
 intro W pb p u1 u3 h hd c1 c3 hn1 hn3
 have hl1 := World.block_lt_of_cell? _ _ c1
 have hb := h.lt
 have h0 := h.g0 (Gr.alloc W (.cells zc 25) _)
 have hb0 := heap_alloc_new W (.cells zc 25)
 have g0 : Gr (fun _ => False) W (W.alloc (.cells zc 25)) := Gr.alloc _ _ _
 have hz0 : (W.alloc (.cells zc 25)).heap.size = W.heap.size + 1 := by simp
 go_enter Tryz.func140, Tryz.ntmps140
 go_wp2_with fail
 generalize W.alloc (.cells zc 25) = W0 at h0 hb0 g0 hz0 ⊢
 obtain ⟨b, hbb⟩ : ∃ b, W.heap.size = b := ⟨_, rfl⟩
 have hbp : pb < b := by omega
 rw [hbb] at hb0 hz0 ⊢
 refine (hu.2 W0 pb p h0 hd).mono ?_
 rintro e w1 ⟨v, rfl, rep1, h1, ⟨hd1, hi1⟩, g1⟩
 obtain ⟨tk, tt, tn, a1, n1, c1', a2, n2, c2, rfl⟩ := rep1.agg
 have hbl := h1.lt
 have hbN := g1.keep hb0 (by omega)
 obtain ⟨⟨m0, m1, m2, m3, m4⟩, f0, f1, f2, f3, f4⟩ := five_cells hbN
 go_wp2_with fail
 have gN : Gr (fun k => k = pb) W w1 := (g0.any _).trans g1
 have rep := rep1.mono (base' := b + 1) (by omega)
 have hN := h1
 obtain ⟨hf, r1, r2, r3⟩ := fin_tree hbN rep hN hbp gN hbb
 clear m0 m1 m2 m3 m4
 obtain ⟨⟨m0, m1, m2, m3, m4⟩, _⟩ := five_cells hf
 exact bodyPost_ret (v := trv tk tt tn (.slice a1 n1 c1') (.slice a2 n2 c2)) (by simp [results, Tryz.results140, go_sem, m0, m1, m2, m3, m4]) rfl ⟨_, rfl, r1, r2, ⟨hd1, hi1⟩, r3⟩
theorem fld1 (k : Int) (s : ByteArray) (n : Int) (va : Option Addr) (vn vc : Nat) (o : Int) (w : World) : (Instr.field 81 (.agg #[.int .i64 k, .string s, .int .i64 n, .slice va vn vc, .int .i64 o]) 1).run Tryz.prog w = .ok (.string s) w := by kernel_rfl
theorem node2_rep {A : Nat → Prop} {w8 : World} {T U : Tr} {k k' : Int} {s s' : ByteArray} {n n' : Int} {bv lv bv' lv' : Value} (K : Int) (S : ByteArray) (hT : Rep A w8 T (trv k s n bv lv)) (hU : Rep A w8 U (trv k' s' n' bv' lv')) (hA : A w8.heap.size) :
 Rep A (w8.alloc (.cells #[.int .i64 k, .string s, .int .i64 n, bv, lv, .int .i64 k', .string s', .int .i64 n', bv', lv'] 25)) (.mk K S 0 [] [T, U]) (trv K S 0 nl (.slice (some ⟨w8.heap.size, 0, none⟩) 2 2)) := by
 have hTn : Turn A A w8 (w8.alloc (.cells #[.int .i64 k, .string s, .int .i64 n, bv, lv, .int .i64 k', .string s', .int .i64 n', bv', lv'] 25)) := fun z hz hl => ⟨hz, heap_alloc_old w8 _ hl⟩
 exact ⟨nl, _, [trv k s n bv lv, trv k' s' n' bv' lv'], rfl, .inl ⟨rfl, _, _, rfl⟩, .inr ⟨w8.heap.size, 2, _, rfl, hA, heap_alloc_new w8 _, Nat.le_refl _, rfl⟩, trv k s n bv lv, _, rfl, hT.turn hTn, trv k' s' n' bv' lv', [], rfl, hU.turn hTn, rfl⟩
theorem join_step {b lb : Nat} {wr w6 w7 w8 w9 : World} {T U : Tr} {q2 : Ps} {k k' n n' : Int} {s s' t : ByteArray} {b1 l1 b1' l1' : Option Addr} {b2 b3 l2 l3 b2' b3' l2' l3' : Nat} (hbp : pb < b) (hW : W.heap.size ≤ b) (hlb : b < lb) (hlw : lb < wr.heap.size)
 (hRep : Rep (fun z => b + 1 ≤ z ∧ z ≠ lb) wr T (trv k s n (.slice b1 b2 b3) (.slice l1 l2 l3))) (hG : Gr (fun k => k = pb) W wr) (G6 : Gr (fun _ => False) wr w6) (g7 : Gr (fun k => k = pb) w6 w7) (g8 : Gr (fun k => k = pb) w7.drew w8)
 (rep8 : Rep (fun z => w7.drew.heap.size ≤ z) w8 U (trv k' s' n' (.slice b1' b2' b3') (.slice l1' l2' l3'))) (h8 : Pz x w8 pb q2) (hB7 : w7.heap[b]? = some (.cells zc 25 (0, 0)))
 (g9 : Gr (fun _ => False) (w8.alloc (.cells #[.int .i64 k, .string s, .int .i64 n, .slice b1 b2 b3, .slice l1 l2 l3, .int .i64 k', .string s', .int .i64 n', .slice b1' b2' b3', .slice l1' l2' l3'] 25)) w9)
 (hL9 : w9.heap[lb]? = some (.cells #[.int .i64 k, .string s, .int .i64 n, .slice b1 b2 b3, .slice l1 l2 l3] 25 (0, 0))) :
 (set5 w9 lb (.int .i64 8) (.string t) (.int .i64 0) nl (.slice (some ⟨w8.heap.size, 0, none⟩) 2 2)).heap[lb]? = some (.cells #[.int .i64 8, .string t, .int .i64 0, nl, .slice (some ⟨w8.heap.size, 0, none⟩) 2 2] 25 (0, 0)) ∧
 Rep (fun z => b + 1 ≤ z ∧ z ≠ lb) (set5 w9 lb (.int .i64 8) (.string t) (.int .i64 0) nl (.slice (some ⟨w8.heap.size, 0, none⟩) 2 2)) (.mk 8 t 0 [] [T, U]) (trv 8 t 0 nl (.slice (some ⟨w8.heap.size, 0, none⟩) 2 2)) ∧
 Pz x (set5 w9 lb (.int .i64 8) (.string t) (.int .i64 0) nl (.slice (some ⟨w8.heap.size, 0, none⟩) 2 2)) pb q2 ∧
 (set5 w9 lb (.int .i64 8) (.string t) (.int .i64 0) nl (.slice (some ⟨w8.heap.size, 0, none⟩) 2 2)).heap[b]? = some (.cells zc 25 (0, 0)) ∧
 Gr (fun k => k = pb) W (set5 w9 lb (.int .i64 8) (.string t) (.int .i64 0) nl (.slice (some ⟨w8.heap.size, 0, none⟩) 2 2)) := by
 have e6 := G6.size
 have e7 := g7.size
 have e8 : w7.heap.size ≤ w8.heap.size := g8.size
 have hA8 : b + 1 ≤ w8.heap.size ∧ w8.heap.size ≠ lb := by omega
 have T8 : Rep (fun z => b + 1 ≤ z ∧ z ≠ lb) w8 T (trv k s n (.slice b1 b2 b3) (.slice l1 l2 l3)) := hRep.turn (fun z hz hl => ⟨hz, ((((G6.any _).trans g7).trans (Gr.drew _ _)).trans g8).block z hl (by omega)⟩)
 have U8 : Rep (fun z => b + 1 ≤ z ∧ z ≠ lb) w8 U (trv k' s' n' (.slice b1' b2' b3') (.slice l1' l2' l3')) := rep8.turn (fun z hz hl => ⟨⟨by have : w7.heap.size ≤ z := hz; omega, by have : w7.heap.size ≤ z := hz; omega⟩, rfl⟩)
 have R8 := node2_rep 8 t T8 U8 hA8
 have Ga := Gr.alloc w8 (.cells #[.int .i64 k, .string s, .int .i64 n, .slice b1 b2 b3, .slice l1 l2 l3, .int .i64 k', .string s', .int .i64 n', .slice b1' b2' b3', .slice l1' l2' l3'] 25) (fun _ => False)
 generalize w8.alloc _ = w8' at R8 Ga g9
 have gs := set5_gr w9 lb (.int .i64 8) (.string t) (.int .i64 0) nl (.slice (some ⟨w8.heap.size, 0, none⟩) 2 2)
 refine ⟨set5_heap hL9 _ _ _ _ _, R8.turn (fun z hz hl => ⟨hz, (gs.block z (Nat.lt_of_lt_of_le hl g9.size) hz.2).trans (g9.block z hl (fun e => e))⟩), ((h8.g0 Ga).g0 g9).gr gs (fun k hk e => by omega), ?_, ?_⟩
 · exact gs.keep (g9.keep (Ga.keep (g8.keep (W := w7.drew) (o := .cells zc 25 (0, 0)) hB7 (by omega)) (fun e => e)) (fun e => e)) (by omega)
 · exact ((((((hG.trans (G6.any _)).trans g7).trans (Gr.drew _ _)).trans g8).trans (Ga.any _)).trans (g9.any _)).trans' gs (fun k hk e => by omega)
theorem any_lt {L : List ByteArray} (h : L.any (isV x.ts p) = true) : p.i < x.cut p ∧ p.e = 0 ∧ p.i < x.ts.length := by
 obtain ⟨s, _, hs⟩ := List.any_eq_true.1 h
 exact isV_lt hs
/-- The cells that the loop's test reads. -/
abbrev ST (u1 pb lev : Nat) (s : ByteArray) (w : World) : Prop := w.cell? ⟨u1, 0, none⟩ = some (pt pb) ∧ w.cell? ⟨4, lev, none⟩ = some (.string s)
theorem Lv.lev0 (h : Lv W) : W.cell? ⟨4, 0, none⟩ = some (.string lw0) := by obtain ⟨⟨t, f, h3⟩, _⟩ := h; simp [World.cell?, h3]
theorem Lv.lev1 (h : Lv W) : W.cell? ⟨4, 1, none⟩ = some (.string lw1) := by obtain ⟨⟨t, f, h3⟩, _⟩ := h; simp [World.cell?, h3]
theorem Lv.lev2 (h : Lv W) : W.cell? ⟨4, 2, none⟩ = some (.string lw2) := by obtain ⟨⟨t, f, h3⟩, _⟩ := h; simp [World.cell?, h3]
end Go.Proofs.YtjedbfbolifjjaaGreatDoor
