/-
  Carried over from another seat of ours (GK).
-/
import Derived.Test.YtggkjkkbkpnkiaaGreatDoorGJ
set_option linter.unusedVariables false
set_option linter.unusedSimpArgs false
namespace Go.Proofs.YtggkjkkbkpnkiaaGreatDoor
open Go.RowKit Go.Maps
variable {x : Kx} {W W' : World} {pb : Nat} {p p' : Ps}

def joinL (ts : List Tn) (sg : List ByteArray) (g : Rule) : Nat → Tr → Ps → Tr × Ps
  | 0, t, p => (t, p)
  | f + 1, t, p => if sg.any (isV ts p) = true then joinL ts sg g f (.mk 8 (pkT ts p).s 0 [] [t, (g p.next).1]) (g p.next).2 else (t, p)
def joinV (ts : List Tn) (sg : List ByteArray) (g : Rule) (f : Nat) (p : Ps) : Tr × Ps := joinL ts sg g f (g p).1 (g p).2
abbrev dwn (u1 u3 : Nat) : Value := .func (.func 70) #[] #[pt u1, pt u3]
/-- What the closure does at a level. -/
def DownOk (x : Kx) (lev : Int) (d : Nat) (g : Rule) : Prop := ∀ (W : World) (pb : Nat) (p : Ps) (u1 u3 : Nat), Pz x W pb p → p.d = d → W.cell? ⟨u1, 0, none⟩ = some (pt pb) → W.cell? ⟨u3, 0, none⟩ = some (dwn u1 u3) → u1 ≠ pb → u3 ≠ pb →
  Calls Tryz.prog 70 #[.int .i64 lev, pt u1, pt u3] W fun e w' => EndR x W pb p e w' (g p)
set_option maxRecDepth 100000 in
set_option maxHeartbeats 1600000 in
theorem down3_c (d : Nat) (u : Rule) (hu : RuleOk x 71 d u) : DownOk x 3 d u := by
  intro W pb p u1 u3 h hd c1 c3 hn1 hn3
  have hl1 := World.block_lt_of_cell? _ _ c1
  have hb := h.lt
  have h0 := h.g0 (Gr.alloc W (.cells zc 30) _)
  have hb0 := heap_alloc_new W (.cells zc 30)
  have g0 : Gr (fun _ => False) W (W.alloc (.cells zc 30)) := Gr.alloc _ _ _
  have hz0 : (W.alloc (.cells zc 30)).heap.size = W.heap.size + 1 := by simp
  go_enter Tryz.func70, Tryz.ntmps70
  go_wp2_with fail
  generalize W.alloc (.cells zc 30) = W0 at h0 hb0 g0 hz0 ⊢
  obtain ⟨b, hbb⟩ : ∃ b, W.heap.size = b := ⟨_, rfl⟩
  have hbp : pb < b := by omega
  rw [hbb] at hb0 hz0 ⊢
  refine (hu.2 W0 pb p h0 hd).mono ?_
  rintro e w1 ⟨v, rfl, rep1, h1, ⟨hd1, hi1⟩, g1⟩
  obtain ⟨tk, tt, tn, a1, n1, c1', a2, n2, c2, rfl⟩ := rep1.agg
  have hbl := h1.lt
  have hbN := g1.keep hb0 (by omega)
  obtain ⟨⟨m0, m1, m2, m3, m4⟩, f0, f1, f2, f3, f4⟩ := five_cells hbN
  go_wp2_with fail
  have gN : Gr (fun k => k = pb) W w1 := (g0.any _).trans g1
  have rep := rep1.mono (base' := b + 1) (by omega)
  have hN := h1
  obtain ⟨hf, r1, r2, r3⟩ := fin_tree hbN rep hN hbp gN hbb
  clear m0 m1 m2 m3 m4
  obtain ⟨⟨m0, m1, m2, m3, m4⟩, _⟩ := five_cells hf
  exact bodyPost_ret (v := trv tk tt tn (.slice a1 n1 c1') (.slice a2 n2 c2)) (by simp [results, Tryz.results70, go_sem, m0, m1, m2, m3, m4]) rfl ⟨_, rfl, r1, r2, ⟨hd1, hi1⟩, r3⟩
theorem fld1 (k : Int) (s : ByteArray) (n : Int) (va : Option Addr) (vn vc : Nat) (o : Int) (w : World) : (Instr.field 27 (.agg #[.int .i64 k, .string s, .int .i64 n, .slice va vn vc, .int .i64 o]) 1).run Tryz.prog w = .ok (.string s) w := by kernel_rfl
theorem node2_rep {A : Nat → Prop} {w8 : World} {T U : Tr} {k k' : Int} {s s' : ByteArray} {n n' : Int} {bv lv bv' lv' : Value} (K : Int) (S : ByteArray) (hT : Rep A w8 T (trv k s n bv lv)) (hU : Rep A w8 U (trv k' s' n' bv' lv')) (hA : A w8.heap.size) :
    Rep A (w8.alloc (.cells #[.int .i64 k, .string s, .int .i64 n, bv, lv, .int .i64 k', .string s', .int .i64 n', bv', lv'] 30)) (.mk K S 0 [] [T, U]) (trv K S 0 nl (.slice (some ⟨w8.heap.size, 0, none⟩) 2 2)) := by
  have hTn : Turn A A w8 (w8.alloc (.cells #[.int .i64 k, .string s, .int .i64 n, bv, lv, .int .i64 k', .string s', .int .i64 n', bv', lv'] 30)) := fun z hz hl => ⟨hz, heap_alloc_old w8 _ hl⟩
  exact ⟨nl, _, [trv k s n bv lv, trv k' s' n' bv' lv'], rfl, .inl ⟨rfl, _, _, rfl⟩, .inr ⟨w8.heap.size, 2, _, rfl, hA, heap_alloc_new w8 _, Nat.le_refl _, rfl⟩, trv k s n bv lv, _, rfl, hT.turn hTn, trv k' s' n' bv' lv', [], rfl, hU.turn hTn, rfl⟩
theorem join_step {b lb : Nat} {wr w6 w7 w8 w9 : World} {T U : Tr} {q2 : Ps} {k k' n n' : Int} {s s' t : ByteArray} {b1 l1 b1' l1' : Option Addr} {b2 b3 l2 l3 b2' b3' l2' l3' : Nat} (hbp : pb < b) (hW : W.heap.size ≤ b) (hlb : b < lb) (hlw : lb < wr.heap.size)
    (hRep : Rep (fun z => b + 1 ≤ z ∧ z ≠ lb) wr T (trv k s n (.slice b1 b2 b3) (.slice l1 l2 l3))) (hG : Gr (fun k => k = pb) W wr) (G6 : Gr (fun _ => False) wr w6) (g7 : Gr (fun k => k = pb) w6 w7) (g8 : Gr (fun k => k = pb) w7.drew w8)
    (rep8 : Rep (fun z => w7.drew.heap.size ≤ z) w8 U (trv k' s' n' (.slice b1' b2' b3') (.slice l1' l2' l3'))) (h8 : Pz x w8 pb q2) (hB7 : w7.heap[b]? = some (.cells zc 30 (0, 0)))
    (g9 : Gr (fun _ => False) (w8.alloc (.cells #[.int .i64 k, .string s, .int .i64 n, .slice b1 b2 b3, .slice l1 l2 l3, .int .i64 k', .string s', .int .i64 n', .slice b1' b2' b3', .slice l1' l2' l3'] 30)) w9)
    (hL9 : w9.heap[lb]? = some (.cells #[.int .i64 k, .string s, .int .i64 n, .slice b1 b2 b3, .slice l1 l2 l3] 30 (0, 0))) :
    (set5 w9 lb (.int .i64 8) (.string t) (.int .i64 0) nl (.slice (some ⟨w8.heap.size, 0, none⟩) 2 2)).heap[lb]? = some (.cells #[.int .i64 8, .string t, .int .i64 0, nl, .slice (some ⟨w8.heap.size, 0, none⟩) 2 2] 30 (0, 0)) ∧
    Rep (fun z => b + 1 ≤ z ∧ z ≠ lb) (set5 w9 lb (.int .i64 8) (.string t) (.int .i64 0) nl (.slice (some ⟨w8.heap.size, 0, none⟩) 2 2)) (.mk 8 t 0 [] [T, U]) (trv 8 t 0 nl (.slice (some ⟨w8.heap.size, 0, none⟩) 2 2)) ∧
    Pz x (set5 w9 lb (.int .i64 8) (.string t) (.int .i64 0) nl (.slice (some ⟨w8.heap.size, 0, none⟩) 2 2)) pb q2 ∧
    (set5 w9 lb (.int .i64 8) (.string t) (.int .i64 0) nl (.slice (some ⟨w8.heap.size, 0, none⟩) 2 2)).heap[b]? = some (.cells zc 30 (0, 0)) ∧
    Gr (fun k => k = pb) W (set5 w9 lb (.int .i64 8) (.string t) (.int .i64 0) nl (.slice (some ⟨w8.heap.size, 0, none⟩) 2 2)) := by
  have e6 := G6.size
  have e7 := g7.size
  have e8 : w7.heap.size ≤ w8.heap.size := g8.size
  have hA8 : b + 1 ≤ w8.heap.size ∧ w8.heap.size ≠ lb := by omega
  have T8 : Rep (fun z => b + 1 ≤ z ∧ z ≠ lb) w8 T (trv k s n (.slice b1 b2 b3) (.slice l1 l2 l3)) := hRep.turn (fun z hz hl => ⟨hz, ((((G6.any _).trans g7).trans (Gr.drew _ _)).trans g8).block z hl (by omega)⟩)
  have U8 : Rep (fun z => b + 1 ≤ z ∧ z ≠ lb) w8 U (trv k' s' n' (.slice b1' b2' b3') (.slice l1' l2' l3')) := rep8.turn (fun z hz hl => ⟨⟨by have : w7.heap.size ≤ z := hz; omega, by have : w7.heap.size ≤ z := hz; omega⟩, rfl⟩)
  have R8 := node2_rep 8 t T8 U8 hA8
  have Ga := Gr.alloc w8 (.cells #[.int .i64 k, .string s, .int .i64 n, .slice b1 b2 b3, .slice l1 l2 l3, .int .i64 k', .string s', .int .i64 n', .slice b1' b2' b3', .slice l1' l2' l3'] 30) (fun _ => False)
  generalize w8.alloc _ = w8' at R8 Ga g9
  have gs := set5_gr w9 lb (.int .i64 8) (.string t) (.int .i64 0) nl (.slice (some ⟨w8.heap.size, 0, none⟩) 2 2)
  refine ⟨set5_heap hL9 _ _ _ _ _, R8.turn (fun z hz hl => ⟨hz, (gs.block z (Nat.lt_of_lt_of_le hl g9.size) hz.2).trans (g9.block z hl (fun e => e))⟩), ((h8.g0 Ga).g0 g9).gr gs (fun k hk e => by omega), ?_, ?_⟩
  · exact gs.keep (g9.keep (Ga.keep (g8.keep (W := w7.drew) (o := .cells zc 30 (0, 0)) hB7 (by omega)) (fun e => e)) (fun e => e)) (by omega)
  · exact ((((((hG.trans (G6.any _)).trans g7).trans (Gr.drew _ _)).trans g8).trans (Ga.any _)).trans (g9.any _)).trans' gs (fun k hk e => by omega)
theorem any_lt {L : List ByteArray} (h : L.any (isV x.ts p) = true) : p.i < x.cut p ∧ p.e = 0 ∧ p.i < x.ts.length := by
  obtain ⟨s, _, hs⟩ := List.any_eq_true.1 h
  exact isV_lt hs
/-- The cells that the loop's test reads. -/
abbrev ST (u1 pb lev : Nat) (s : ByteArray) (w : World) : Prop := w.cell? ⟨u1, 0, none⟩ = some (pt pb) ∧ w.cell? ⟨1, lev, none⟩ = some (.string s)
theorem Lv.lev0 (h : Lv W) : W.cell? ⟨1, 0, none⟩ = some (.string lw0) := by obtain ⟨⟨t, f, h3⟩, _⟩ := h; simp [World.cell?, h3]
theorem Lv.lev1 (h : Lv W) : W.cell? ⟨1, 1, none⟩ = some (.string lw1) := by obtain ⟨⟨t, f, h3⟩, _⟩ := h; simp [World.cell?, h3]
theorem Lv.lev2 (h : Lv W) : W.cell? ⟨1, 2, none⟩ = some (.string lw2) := by obtain ⟨⟨t, f, h3⟩, _⟩ := h; simp [World.cell?, h3]
end Go.Proofs.YtggkjkkbkpnkiaaGreatDoor


