/-
  The chapter's examples come out.
-/
import Derived.Test.YtdmichjhmfinpaaGreatDoorAE
import Derived.Test.YtdmichjhmfinpaaGreatDoorAU
import Derived.Test.YtdmichjhmfinpaaGreatDoorBN
import Derived.ProofKit
import Derived.OpenShut
import Derived.ChangeMaps5
import Derived.Lay
import Derived.Stop.LaidErr
import Derived.SevenTiedAt
set_option linter.unusedVariables false
set_option linter.unusedSimpArgs false
namespace Go.Proofs.YtdmichjhmfinpaaGreatDoor
open Go.RowKit Go.Maps
/-- What the chapter's examples ask. -/
def AliveOk : Prop := ∀ W, Er W → Calls Tryz.prog 5 #[] W fun e w' => e = .returned (.bool true) ∧ Gr (fun _ => False) W w'

theorem rep_zero (A : Nat → Prop) (W : World) : Rep A W (.mk { k := 0 } [] []) (lf 0 0 0 0 e0 0 0 0) := ⟨_, _, [], rfl, .inl ⟨rfl, _, _, rfl⟩, .inl ⟨rfl, _, _, rfl⟩, rfl⟩

def isTwo : Except (Nat × Int) Tm → Bool
  | .ok (.mk _ _ l) => l.length == 2
  | .error _ => false
def isBad (j : Nat) (c : Int) : Except (Nat × Int) Tm → Bool
  | .ok _ => false
  | .error (i, d) => i == j && d == c
abbrev txA : ByteArray := ⟨#[123, 49, 44, 91, 97, 93, 125]⟩
abbrev txB : ByteArray := ⟨#[91, 49, 44, 50]⟩
theorem two_A : isTwo (parseV txA) = true := by decide +kernel
theorem bad_B : isBad 4 41 (parseV txB) = true := by decide +kernel
end Go.Proofs.YtdmichjhmfinpaaGreatDoor
/- First: the chapter's examples come out. -/
namespace Go.Proofs.YtdmichjhmfinpaaGreatDoor
open Go.RowKit Go.Maps
variable {S S' : Nat → Prop} {W W1 W' : World}

set_option maxRecDepth 20000 in
set_option maxHeartbeats 800000 in
theorem mkInt_c (n : Int) (w : World) : Calls Tryz.prog 12 #[.int .i64 n] w fun e w' => e = .returned (lf 1 n 0 0 e0 0 0 0) ∧ Gr (fun _ => False) w w' := by
  go_enter Tryz.func12, Tryz.ntmps12
  go_wp2
  exact bodyPost_ret (v := lf 1 n 0 0 e0 0 0 0) (by simp [results, Tryz.results12, go_sem]) rfl ⟨rfl, Gr.alloc _ _ _⟩
set_option maxRecDepth 20000 in
set_option maxHeartbeats 800000 in
theorem mkAtom_c (s : ByteArray) (w : World) : Calls Tryz.prog 13 #[.string s] w fun e w' => e = .returned (lf 3 0 0 0 s 0 0 0) ∧ Gr (fun _ => False) w w' := by
  go_enter Tryz.func13, Tryz.ntmps13
  go_wp2
  exact bodyPost_ret (v := lf 3 0 0 0 s 0 0 0) (by simp [results, Tryz.results13, go_sem]) rfl ⟨rfl, Gr.alloc _ _ _⟩
set_option maxRecDepth 20000 in
set_option maxHeartbeats 800000 in
theorem bytes_c (W : World) (a : Option Addr) (c : Nat) (bs : List Int) (h : Sb W (.slice a bs.length c) bs) (hl : bs.length ≤ 900000) : Calls Tryz.prog 14 #[.slice a bs.length c] W fun e w' => ∃ xb yb, e = .returned (tv 8 0 0 0 e0 0 0 0 (.slice xb bs.length yb) nl) ∧ Ob W.heap.size w' (.slice xb bs.length yb) bs ∧ Gr (fun _ => False) W w' := by
  have hs : Sb (W.alloc (.cells #[.int .i64 0, .int .i64 0, .complex .f64 0 0, .string e0, .int .i64 0, .int .u32 0, .int .u64 0, nl, nl] 31)) (.slice a bs.length c) bs := by
    rcases h with h | ⟨a', c', e, h3⟩
    · exact .inl h
    · refine .inr ⟨a', c', e, fun j u hu => ?_⟩
      have := h3 j u hu
      rw [World.cell?_of_block (w' := W.alloc (.cells #[.int .i64 0, .int .i64 0, .complex .f64 0 0, .string e0, .int .i64 0, .int .u32 0, .int .u64 0, nl, nl] 31)) (w := W) (a := a'.add j) ((Gr.alloc W _ (fun _ => False)).block _ (World.block_lt_of_cell? W _ this) (fun e => e))]
      exact this
  have hR : Bx (W.alloc (.cells #[.int .i64 0, .int .i64 0, .complex .f64 0 0, .string e0, .int .i64 0, .int .u32 0, .int .u64 0, nl, nl] 31)) W.heap.size 0 0 0 0 e0 0 0 0 nl nl := heap_alloc_new W _
  have hs0 : (W.alloc (.cells #[.int .i64 0, .int .i64 0, .complex .f64 0 0, .string e0, .int .i64 0, .int .u32 0, .int .u64 0, nl, nl] 31)).heap.size = W.heap.size + 1 := by simp
  have g0 : Gr (fun _ => False) W (W.alloc (.cells #[.int .i64 0, .int .i64 0, .complex .f64 0 0, .string e0, .int .i64 0, .int .u32 0, .int .u64 0, nl, nl] 31)) := Gr.alloc _ _ _
  replace hR := Lib.hid hR
  replace hs0 := Lib.hid hs0
  go_enter Tryz.func14, Tryz.ntmps14
  go_wp2_with fail
  refine (cloneB_c _ _ bs hs hl).mono ?_
  rintro e w1 ⟨v1, rfl, o1, g1⟩
  obtain ⟨xb, yb, rfl⟩ := o1.sv
  have hR4 := hR.out.gr g1 (fun e => e)
  obtain ⟨q9, t9⟩ := hR4.set9 8 0 0 0 e0 0 0 0 (.slice xb bs.length yb) nl
  have y0 := hR4.froz 0 (by decide)
  have y1 := hR4.froz 1 (by decide)
  have y2 := hR4.froz 2 (by decide)
  have y3 := hR4.froz 3 (by decide)
  have y4 := hR4.froz 4 (by decide)
  have y5 := hR4.froz 5 (by decide)
  have y6 := hR4.froz 6 (by decide)
  have y7 := hR4.froz 7 (by decide)
  have y8 := hR4.froz 8 (by decide)
  have hzf := hR4.facts
  obtain ⟨p0, p1, p2, p3, p4, p5, p6, p7, p8⟩ := q9.facts
  have hso := hs0.out
  have o2 := (o1.gr t9 (fun k hk _ e => by omega)).mono (base' := W.heap.size) (by omega)
  replace o2 := Lib.hid o2
  clear hso
  go_wp2
  exact bodyPost_ret (v := tv 8 0 0 0 e0 0 0 0 (.slice xb bs.length yb) nl) (by simp [results, Tryz.results14, go_sem, p0, p1, p2, p3, p4, p5, p6, p7, p8]) rfl ⟨xb, yb, rfl, o2.out, (g0.trans g1).trans' t9 (fun i hi e => by omega)⟩

theorem parseA (W : World) (hE : Er W) : Calls Tryz.prog 6 #[.string txA] W fun e w' => ∃ k n x y s a c d a1 n1 c1 a2 c2, e = .returned (.tuple #[ts k n x y s a c d a1 n1 c1 a2 2 c2, .int .i64 0, .int .i64 0]) ∧ Gr (fun _ => False) W w' := by
  refine (parse_c txA W hE).mono ?_
  intro e w' h
  have h2 := two_A
  cases hp : parseV txA with
  | error x => rw [hp] at h2; cases h2
  | ok T =>
    rw [hp] at h h2
    obtain ⟨v, rfl, hr, hg⟩ := h
    obtain ⟨t, bs, l, a1, c1, a2, c2, rfl, rfl⟩ := hr.ts
    have hl : l.length = 2 := by simpa [isTwo] using h2
    rw [hl]
    exact ⟨_, _, _, _, _, _, _, _, _, _, _, _, _, rfl, hg⟩
theorem parseB (W : World) (hE : Er W) : Calls Tryz.prog 6 #[.string txB] W fun e w' => e = .returned (.tuple #[lf 0 0 0 0 e0 0 0 0, .int .i64 4, .int .i64 41]) ∧ Gr (fun _ => False) W w' := by
  refine (parse_c txB W hE).mono ?_
  intro e w' h
  have h2 := bad_B
  cases hp : parseV txB with
  | ok T => rw [hp] at h2; cases h2
  | error x =>
    obtain ⟨j, c⟩ := x
    rw [hp] at h h2
    obtain ⟨rfl, hg⟩ := h
    simp [isBad] at h2
    obtain ⟨rfl, rfl⟩ := h2
    exact ⟨rfl, hg⟩
theorem tuple0 (W : World) (xb : Option Addr) (yb base : Nat) (ho : Ob base W (.slice xb 2 yb) [1, 34]) :
    Calls Tryz.prog 11 #[.slice (some ⟨W.heap.size, 0, none⟩) 3 3] (W.alloc (.cells #[.int .i64 1, .int .i64 (-5), .complex .f64 0 0, .string e0, .int .i64 0, .int .u32 0, .int .u64 0, nl, nl, .int .i64 3, .int .i64 0, .complex .f64 0 0, .string okS, .int .i64 0, .int .u32 0, .int .u64 0, nl, nl, .int .i64 8, .int .i64 0, .complex .f64 0 0, .string e0, .int .i64 0, .int .u32 0, .int .u64 0, .slice xb 2 yb, nl] 31)) fun e w' => ∃ v', e = .returned v' ∧ Rep (fun k => k < w'.heap.size) w' T0 v' ∧ Gr (fun _ => False) W w' := by
  generalize hV : W.alloc _ = V
  have gV : Gr (fun _ => False) W V := hV ▸ Gr.alloc _ _ _
  have hs : V.heap.size = W.heap.size + 1 := by rw [← hV]; simp
  have hb : V.heap[W.heap.size]? = some (.cells #[.int .i64 1, .int .i64 (-5), .complex .f64 0 0, .string e0, .int .i64 0, .int .u32 0, .int .u64 0, nl, nl, .int .i64 3, .int .i64 0, .complex .f64 0 0, .string okS, .int .i64 0, .int .u32 0, .int .u64 0, nl, nl, .int .i64 8, .int .i64 0, .complex .f64 0 0, .string e0, .int .i64 0, .int .u32 0, .int .u64 0, .slice xb 2 yb, nl] 31 (0, 0)) := hV ▸ heap_alloc_new W _
  clear hV
  have hrow : RowT (fun k => k < V.heap.size) V [lf 1 (-5) 0 0 e0 0 0 0, lf 3 0 0 0 okS 0 0 0, tv 8 0 0 0 e0 0 0 0 (.slice xb 2 yb) nl] 3 (.slice (some ⟨W.heap.size, 0, none⟩) 3 3) :=
    .inr ⟨W.heap.size, 3, _, rfl, by omega, hb, Nat.le_refl _, rfl⟩
  have hrb : RowB (fun k => k < V.heap.size) V [1, 34] (.slice xb 2 yb) := (rowB_own ho.row).turn (fun k _ hlt => ⟨by omega, gV.block k hlt (fun e => e)⟩)
  have hrs : Reps (fun k => k < V.heap.size) V [T1, T2, T3] [lf 1 (-5) 0 0 e0 0 0 0, lf 3 0 0 0 okS 0 0 0, tv 8 0 0 0 e0 0 0 0 (.slice xb 2 yb) nl] := by
    refine ⟨_, _, rfl, ⟨nl, nl, [], rfl, .inl ⟨rfl, _, _, rfl⟩, .inl ⟨rfl, _, _, rfl⟩, rfl⟩, _, _, rfl, ⟨nl, nl, [], rfl, .inl ⟨rfl, _, _, rfl⟩, .inl ⟨rfl, _, _, rfl⟩, rfl⟩, _, _, rfl, ⟨_, nl, [], rfl, hrb, .inl ⟨rfl, _, _, rfl⟩, rfl⟩, rfl⟩
  refine (tuple_t (fun k => k < V.heap.size) V [T1, T2, T3] (some ⟨W.heap.size, 0, none⟩) 3 _ hrow hrs (fun k hk => hk) thin0 hgt0 okm0 6 go0).mono ?_
  rintro e w' ⟨v', rfl, hr, hg⟩
  exact ⟨v', rfl, hr.turn (fun k _ hlt => ⟨hlt, rfl⟩), gV.trans hg⟩
theorem print0 (W : World) (v : Value) (h : Rep (fun k => k < W.heap.size) W T0 v) : Calls Tryz.prog 9 #[v] W fun e w' => e = .returned (.tuple #[.string ⟨#[123, 45, 53, 44, 111, 107, 44, 34, 92, 120, 48, 49, 92, 34, 34, 125]⟩, .int .i64 0]) ∧ Gr (fun _ => False) W w' := by
  have := print_t (fun k => k < W.heap.size) W T0 v 6 _ 400000 h (fun k hk => hk) hgt0 okw0 go0 put0 (by decide) len0'
  rwa [txt0] at this

set_option maxRecDepth 100000 in
set_option maxHeartbeats 1600000 in
theorem alive_ok : AliveOk := by
  intro W hE
  go_enter Tryz.func5, Tryz.ntmps5
  go_wp2_with fail
  refine (mkInt_c _ _).mono ?_
  rintro e w1 ⟨rfl, g1⟩
  go_wp2_with fail
  refine (mkAtom_c _ _).mono ?_
  rintro e w2 ⟨rfl, g2⟩
  have hlit := (Ob.lit 0 w2 [1, 34] (by decide) (Nat.zero_le _) #[.int .u8 1, .int .u8 34] rfl 2 rfl).sb
  go_wp2_with fail
  refine (bytes_c _ _ _ [1, 34] hlit (by decide)).mono ?_
  rintro e w3 ⟨xb, yb, rfl, o3, g3⟩
  go_wp2_with fail
  refine (tuple0 w3 xb yb _ o3).mono ?_
  rintro e w5 ⟨v5, rfl, hr5, g5⟩
  go_wp2_with fail
  refine (print0 w5 v5 hr5).mono ?_
  rintro e w6 ⟨rfl, g6⟩
  have gA := ((((g1.trans g2).trans (Gr.alloc _ _ _)).trans g3).trans g5).trans g6
  have hE6 := hE.gr gA (fun e => e)
  go_wp2_with fail
  refine (parseA w6 hE6).mono ?_
  rintro e w7 ⟨sk, sn, sx, sy, sS, sa, sc, sd, a1, n1, c1, a2, c2, rfl, g7⟩
  have hE7 := hE6.gr g7 (fun e => e)
  go_wp2_with fail
  generalize hW8 : w7.alloc _ = w8
  have g8 : Gr (fun _ => False) w7 w8 := hW8 ▸ Gr.alloc _ _ _
  have hb8 : Bx w8 w7.heap.size sk sn sx sy sS sa sc sd (.slice a1 n1 c1) (.slice a2 2 c2) := hW8 ▸ heap_alloc_new w7 _
  clear hW8
  refine (parseB w8 (hE7.gr g8 (fun e => e))).mono ?_
  rintro e w9 ⟨rfl, g9⟩
  have hb9 := (hb8.gr g9 (fun e => e)).facts
  have hl9 : w7.heap.size < w9.heap.size := (hb8.gr g9 (fun e => e)).lt
  go_wp2_with fail
  go_ret
  exact ⟨rfl, (((gA.trans g7).trans g8).trans g9).trans (Gr.alloc _ _ _)⟩
end Go.Proofs.YtdmichjhmfinpaaGreatDoor
