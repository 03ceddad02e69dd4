/-
  The walk of GramYields.
-/
import Derived.Test.YtbmbgnmkakkpfaaDoorHA
set_option linter.unusedVariables false
set_option linter.unusedSimpArgs false
namespace Go.Proofs.YtbmbgnmkakkpfaaDoor
open Go.RowKit Go.Maps
variable {W W' : World}

theorem row_at5 {base : Nat} {v : Value} {l : List Tr} {us : List Value} {A : Nat → Prop} (hr : W.ownsRow base 25 5 v l.length (us.flatMap cellsOf)) (hp : Reps A W l us) (i : Nat) (k : Int) (s : ByteArray) (n : Int) (b : List Int) (q : List Tr) (hi : l[i]? = some (.mk k s n b q)) :
    ∃ g c a d, v = .slice (some ⟨g, 0, none⟩) l.length c ∧ W.cell? ⟨g, i * 5, none⟩ = some (.int .i64 k) ∧ W.cell? ⟨g, i * 5 + 2, none⟩ = some (.int .i64 n) ∧ W.cell? ⟨g, i * 5 + 3, none⟩ = some (.slice a b.length d) ∧ Sb W (.slice a b.length d) b := by
  have hlt : i < l.length := (List.getElem?_eq_some_iff.1 hi).1
  obtain ⟨g, c, rfl, hc⟩ := row_cells hr (by omega)
  obtain ⟨v', h1, h2⟩ := Reps.at hp i _ hi
  obtain ⟨bv, lv, vs, rfl, hB, _⟩ := h1
  obtain ⟨a, d, rfl⟩ := hB.sv
  have hadd : ∀ j, (⟨g, 0, none⟩ : Addr).add j = ⟨g, j, none⟩ := fun j => by unfold Addr.add; split <;> simp_all
  refine ⟨g, c, a, d, rfl, ?_, ?_, ?_, hB.sb⟩
  · have := hc _ _ (h2 0 _ rfl); rw [hadd] at this; exact this
  · have := hc _ _ (h2 2 _ rfl); rw [hadd] at this; exact this
  · have := hc _ _ (h2 3 _ rfl); rw [hadd] at this; exact this
theorem is_at' {base : Nat} {aa : Option Addr} {ac : Nat} {ns : List Int} (ha : Is base W (.slice aa ns.length ac) ns) : ∀ k s, ns[k]? = some s → ∃ g, aa = some ⟨g, 0, none⟩ ∧ W.cell? ⟨g, k, none⟩ = some (.int .i64 s) := by
  intro k s hk
  have hlt : k < ns.length := (List.getElem?_eq_some_iff.1 hk).1
  rcases ha.row.2 with ⟨e, h0⟩ | ⟨g, cap, cur, e, hg, h2, h3, _, _, h6⟩
  · rw [List.eq_nil_of_length_eq_zero h0] at hk; simp at hk
  · simp only [Value.slice.injEq, true_and] at e
    obtain ⟨rfl, rfl⟩ := e
    refine ⟨g, rfl, ?_⟩
    have hlt' : k < ns.length * 1 := by omega
    have e : (ns.map (Value.int .i64))[k]? = some (.int .i64 s) := by rw [List.getElem?_map, hk]; rfl
    rw [← h6, List.getElem?_take_of_lt hlt'] at e
    simp only [World.cell?, h2]
    simpa using e
theorem sb_len (l : List Int) : (sb l).size = l.length := by simp [sb, ByteArray.size]
theorem lt_by (l : List Tok) (hs : ∀ t ∈ l, Shrt t) : (l.flatMap (·.b)).length ≤ l.length * 16384 := by
  induction l with
  | nil => simp
  | cons t m ih =>
    rw [List.flatMap_cons, List.length_append, List.length_cons]
    have h1 := (hs t (by simp)).2
    have h2 := ih (fun t ht => hs t (by simp [ht]))
    omega
theorem lt_fm {α : Type} (l : List Tok) (i : Nat) (f : Tok → List α) (hf : ∀ t, (f t).length ≤ 1) (hl : l.length ≤ 4000) : ((l.take i).flatMap f).length < 40000 := by
  have h : ∀ m : List Tok, (m.flatMap f).length ≤ m.length := by
    intro m
    induction m with
    | nil => simp
    | cons t m ih => rw [List.flatMap_cons, List.length_append, List.length_cons]; have := hf t; omega
  have h1 := h (l.take i)
  have h2 : (l.take i).length ≤ l.length := by rw [List.length_take]; omega
  omega
set_option maxRecDepth 100000 in
set_option maxHeartbeats 1500000 in
theorem yields_walk (hSz : ∀ (s : ByteArray) (l : List Tok) (T : Tr), scanV s = .ok l → parseV (l.map tnOf) = .ok T → Szs [T]) (W : World) (s : ByteArray) (hE : Er W) (hS : Sg W) (hL : Lv W) : Calls Tryd.prog 4 #[.string s] W fun e w' => e = .returned (.bool true) ∧ Gr (fun _ => False) W w' := by
  have h4 : 4 < W.heap.size := by obtain ⟨_, t, f, h⟩ := hL; exact (Array.getElem?_eq_some_iff.1 h).1
  have hal := alive_c W hE hS hL
  have hsc := fun w (g : Gr (fun _ => False) W w) => scan_c w s (hE.gr g (fun e => e)) (hS.gr g (fun e => e))
  cases hv : scanV s with
  | error p =>
    obtain ⟨i, c⟩ := p
    have q : (c != 0) = true := by rw [bne_iff_ne]; exact scanV_err hv
    rw [hv] at hsc
    replace hsc := Lib.hid hsc
    go_enter Tryd.func4, Tryd.ntmps4
    go_wp2_with fail
    refine hal.mono ?_
    rintro e w1 ⟨rfl, g1⟩
    go_wp2_with fail
    refine (hsc.out w1 g1).mono ?_
    rintro e w2 ⟨rfl, g2⟩
    go_wp2_with fail
    go_ret
    exact ⟨rfl, g1.trans g2⟩
  | ok l =>
    rw [hv] at hsc
    have hp := fun w (g : Gr (fun _ => False) W w) base vs a c h1 => parseT_b w base s l vs a c hv h1 (hL.gr g (fun e => e) (fun e => e)) (Nat.lt_of_lt_of_le h4 g.size)
    have hpl := scanV_plain hv
    obtain ⟨hsh, hlen⟩ := scanV_all hv
    have hlenI : (l.length : Int) ≤ 4000 := by omega
    have hyl := fun (T : Tr) h hb => parse_yields (ts := l.map tnOf) (T := T) hpl h hb
    replace hsc := Lib.hid hsc
    cases hr : parseV (l.map tnOf) with
    | error p =>
      obtain ⟨i, c⟩ := p
      rw [hr] at hp
      have hc : c ≠ 0 ∧ i = (progV (l.map tnOf) (exun (l.map tnOf) 41).1 ⟨0, 0, 0⟩).2.i := by
        unfold parseV at hr
        split at hr
        · rename_i hne
          cases hr
          exact ⟨hne, rfl⟩
        · cases hr
      have q : (c != 0) = true := by rw [bne_iff_ne]; exact hc.1
      have Hi := Lib.hid hc.2
      replace hp := Lib.hid hp
      clear hc hyl hr
      go_enter Tryd.func4, Tryd.ntmps4
      go_wp2_with fail
      refine hal.mono ?_
      rintro e w1 ⟨rfl, g1⟩
      go_wp2_with fail
      refine (hsc.out w1 g1).mono ?_
      rintro e w2 ⟨sv, vs, rfl, hT, g2⟩
      obtain ⟨sa, sc, rfl⟩ := hT.sv
      go_wp2_with fail
      refine (hp.out w2 (g1.trans g2) _ vs sa sc hT).mono ?_
      rintro e w3 ⟨⟨rfl, g3⟩, hb⟩
      have hiI : (i : Int) ≤ (l.length : Int) := by rw [← Hi.out, List.length_map] at hb; omega
      go_wp2_with fail
      go_ret
      exact ⟨rfl, ((g1.trans g2).trans g3).trans (Gr.alloc _ _ _)⟩
    | ok T =>
      rw [hr] at hp
      replace hyl := hyl T hr
      have hszs := Lib.hid (hSz s l T hv hr)
      clear hSz
      replace hp := Lib.hid hp
      go_enter Tryd.func4, Tryd.ntmps4
      go_wp2_with fail
      refine hal.mono ?_
      rintro e w1 ⟨rfl, g1⟩
      go_wp2_with fail
      refine (hsc.out w1 g1).mono ?_
      rintro e w2 ⟨sv, vs, rfl, hT, g2⟩
      obtain ⟨sa, sc, rfl⟩ := hT.sv
      go_wp2_with fail
      refine (hp.out w2 (g1.trans g2) _ vs sa sc hT).mono ?_
      rintro e w3 ⟨⟨v, rfl, rep3, g3⟩, hb⟩
      obtain ⟨hy1, hcnt⟩ := hyl hb
      obtain ⟨y1, y2, y3⟩ := yields_all hy1
      obtain ⟨tk, tt, tn, a1, n1, c1, a2, n2, c2, rfl⟩ := rep3.agg
      have G4 := Gr.alloc w3 (.cells #[.int .i64 tk, .string tt, .int .i64 tn, .slice a1 n1 c1, .slice a2 n2 c2] 25) (fun _ => False)
      have hl4 := heap_alloc_new w3 (.cells #[.int .i64 tk, .string tt, .int .i64 tn, .slice a1 n1 c1, .slice a2 n2 c2] 25)
      go_wp2_with fail
      generalize w3.alloc _ = w4 at G4 hl4 ⊢
      obtain ⟨tb, htb⟩ : ∃ tb, w3.heap.size = tb := ⟨_, rfl⟩
      rw [htb] at hl4 ⊢
      have G24 : Gr (fun _ => False) w2 w4 := g3.trans G4
      have hgr : Hid (∀ w', Gr (fun _ => False) w2 w' → Gr (fun _ => False) W w') := fun w' g => (g1.trans g2).trans g
      have hat : Hid (∀ (i : Nat) (t : Tok), l[i]? = some t → ∃ g, sa = some ⟨g, 0, none⟩ ∧ g < w2.heap.size ∧ TkAt w2 w1.heap.size g i t) := by
        intro i t hi
        have hpos : 0 < l.length := by have := (List.getElem?_eq_some_iff.1 hi).1; omega
        obtain ⟨g, h1, h2, h3, h4⟩ := hT.row hpos
        exact ⟨g, h1, h2, h4 i t hi⟩
      have rep4 := rep3.g0 G4
      replace rep4 := Lib.hid rep4
      replace hcnt := Lib.hid hcnt
      replace y1 := Lib.hid y1
      replace y2 := Lib.hid y2
      replace y3 := Lib.hid y3
      replace hsh := Lib.hid hsh
      replace hlen := Lib.hid hlen
      clear hT hp hsc hal hyl hr hb hy1 hv hpl hE hS hL rep3
      go_loopw [8, 9, 10, 11] (fun u8 u9 u10 u11 wr => ∃ i : Nat, i ≤ l.length ∧ u11 = .int .i64 (i : Int) ∧ Ns w4.heap.size wr u8 ((l.take i).flatMap fun t => nmK (tnOf t)) ∧ Is w4.heap.size wr u9 ((l.take i).flatMap fun t => inK (tnOf t)) ∧ u10 = .string (sb ((l.take i).flatMap (·.b))) ∧ Gr (fun _ => False) w4 wr) (fun _ _ _ u11 _ => l.length - (intOf u11).toNat)
      case atStart => exact ⟨0, Nat.zero_le _, rfl, by rw [List.take_zero]; exact Ns.nil _ _ (Nat.le_refl _), by rw [List.take_zero]; exact Is.nil _ _ (Nat.le_refl _), by rw [List.take_zero]; rfl, Gr.refl _ _⟩
      case round =>
        obtain ⟨i, hi, rfl, hN, hI, rfl, hG⟩ := hrel
        by_cases hlt : i < l.length
        · have h1 : decide ((i : Int) < (l.length : Int)) = true := by simp; omega
          obtain ⟨t, ht⟩ : ∃ t, l[i]? = some t := ⟨_, List.getElem?_eq_getElem hlt⟩
          obtain ⟨g, rfl, hg, hTk⟩ := hat.out i t ht
          have hst : ∀ {α : Type} (f : Tok → List α), (l.take (i + 1)).flatMap f = (l.take i).flatMap f ++ f t := by
            intro α f
            rw [List.take_add_one, ht, List.flatMap_append]
            simp
          have eA := Lib.hid (hst fun t => nmK (tnOf t))
          have eB := Lib.hid (hst fun t => inK (tnOf t))
          have eC := Lib.hid (hst (·.b))
          have lA : Hid (((l.take i).flatMap fun t => nmK (tnOf t)).length < 40000) := lt_fm l i _ (fun t => by unfold nmK; split <;> simp) hlen.out
          have lB : Hid (((l.take i).flatMap fun t => inK (tnOf t)).length < 40000) := lt_fm l i _ (fun t => by unfold inK; split <;> simp) hlen.out
          have hend : Hid (∀ (A' : List ByteArray) (B' : List Int) (u8' u9' : Value) (w5 : World), (l.take (i + 1)).flatMap (fun t => nmK (tnOf t)) = A' → (l.take (i + 1)).flatMap (fun t => inK (tnOf t)) = B' → Ns w4.heap.size w5 u8' A' → Is w4.heap.size w5 u9' B' → Gr (fun _ => False) w4 w5 →
              (∃ i' : Nat, i' ≤ l.length ∧ (Value.int .i64 ((i : Int) + 1)) = .int .i64 (i' : Int) ∧ Ns w4.heap.size w5 u8' ((l.take i').flatMap fun t => nmK (tnOf t)) ∧ Is w4.heap.size w5 u9' ((l.take i').flatMap fun t => inK (tnOf t)) ∧ (Value.string (sb ((l.take i).flatMap (·.b)) ++ sb t.b)) = .string (sb ((l.take i').flatMap (·.b))) ∧ Gr (fun _ => False) w4 w5) ∧ l.length - (intOf (.int .i64 ((i : Int) + 1))).toNat < l.length - (intOf (.int .i64 (i : Int))).toNat) := by
            intro A' B' u8' u9' w5 e1 e2 p1 p2 p3
            refine ⟨⟨i + 1, hlt, by go_num, by rw [e1]; exact p1, by rw [e2]; exact p2, ?_, p3⟩, by simp [intOf]; omega⟩
            rw [eC.out, sb_app]
          have hcc : (sb ((l.take i).flatMap (·.b))).size + (sb t.b).size ≤ 9223372036854775807 := by
            rw [sb_len, sb_len]
            have h1 := lt_by (l.take i) (fun t ht => hsh.out t (List.mem_of_mem_take ht))
            have h2 := (hsh.out t (List.mem_of_getElem? ht)).2
            have h3 : (l.take i).length ≤ l.length := by rw [List.length_take]; omega
            have h4 := hlen.out
            omega
          clear hst
          generalize (l.take i).flatMap (fun t => nmK (tnOf t)) = A at hN eA lA
          generalize (l.take i).flatMap (fun t => inK (tnOf t)) = B at hI eB lB
          generalize sb ((l.take i).flatMap (·.b)) = C at hend hcc ⊢
          obtain ⟨ta, tc, hBq, x0, x1, x2, x3, x4⟩ := hTk.gr (G24.trans hG)
          have hTk' := Lib.hid hTk
          clear hTk
          obtain ⟨na, nc, rfl⟩ := hN.sv
          obtain ⟨ia, ic, rfl⟩ := hI.sv
          have hiI : (i : Int) ≤ 4000 := by omega
          have hsz := hG.size
          by_cases h2 : t.k = 2
          · have q2 : (t.k == 2) = true := by simpa using h2
            have q1 : (t.k == 1) = false := by simp [h2]
            have f1 : nmK (tnOf t) = [t.s] := if_pos (by show t.k = 2 ∨ t.k = 3; omega)
            have f2 : inK (tnOf t) = [] := if_neg (by show ¬ t.k = 1; omega)
            rw [f1] at eA
            rw [f2, List.append_nil] at eB
            clear h2 f1 f2
            go_wp2_with (first
              | (at_builtin; refine wpList_ns2 rfl _ _ rfl w4.heap.size _ A wr.heap.size t.s rfl rfl (hN.g0 (Gr.alloc wr _ _)) (new_cell wr t.s) lA.out ?_; intro v5 w5 hN5 g5; have G5 : Gr (fun _ => False) w4 w5 := (hG.trans (Gr.alloc wr (.cells #[.string t.s] 9) _)).trans' g5 (fun k hk e => by have := (ownsRow_lt hN.row k e).1; omega); have hI5 := (hI.g0 (Gr.alloc wr (.cells #[.string t.s] 9) _)).keep (hN.g0 (Gr.alloc wr (.cells #[.string t.s] 9) _)) g5; obtain ⟨tb5, tc5, hB5, z0, z1, z2, z3, z4⟩ := hTk'.out.gr (G24.trans G5); have hcv := conv_sb hB5.sb; obtain ⟨a5, c5, rfl⟩ := hN5.sv)
              | fail)
            have hl5 : (A ++ [t.s]).length = A.length + 1 := by simp
            exact hend.out _ _ _ _ w5 eA.out eB.out (by rw [← hl5]; exact hN5) hI5 G5
          have q2 : (t.k == 2) = false := by simpa using h2
          by_cases h3 : t.k = 3
          · have q3 : (t.k == 3) = true := by simpa using h3
            have q1 : (t.k == 1) = false := by simp [h3]
            have f1 : nmK (tnOf t) = [t.s] := if_pos (by show t.k = 2 ∨ t.k = 3; omega)
            have f2 : inK (tnOf t) = [] := if_neg (by show ¬ t.k = 1; omega)
            rw [f1] at eA
            rw [f2, List.append_nil] at eB
            clear h2 h3 f1 f2
            go_wp2_with (first
              | (at_builtin; refine wpList_ns2 rfl _ _ rfl w4.heap.size _ A wr.heap.size t.s rfl rfl (hN.g0 (Gr.alloc wr _ _)) (new_cell wr t.s) lA.out ?_; intro v5 w5 hN5 g5; have G5 : Gr (fun _ => False) w4 w5 := (hG.trans (Gr.alloc wr (.cells #[.string t.s] 9) _)).trans' g5 (fun k hk e => by have := (ownsRow_lt hN.row k e).1; omega); have hI5 := (hI.g0 (Gr.alloc wr (.cells #[.string t.s] 9) _)).keep (hN.g0 (Gr.alloc wr (.cells #[.string t.s] 9) _)) g5; obtain ⟨tb5, tc5, hB5, z0, z1, z2, z3, z4⟩ := hTk'.out.gr (G24.trans G5); have hcv := conv_sb hB5.sb; obtain ⟨a5, c5, rfl⟩ := hN5.sv)
              | fail)
            have hl5 : (A ++ [t.s]).length = A.length + 1 := by simp
            exact hend.out _ _ _ _ w5 eA.out eB.out (by rw [← hl5]; exact hN5) hI5 G5
          have q3 : (t.k == 3) = false := by simpa using h3
          have f1 : nmK (tnOf t) = [] := if_neg (by show ¬ (t.k = 2 ∨ t.k = 3); omega)
          rw [f1, List.append_nil] at eA
          by_cases hk1 : t.k = 1
          · have q1 : (t.k == 1) = true := by simpa using hk1
            have f2 : inK (tnOf t) = [t.n] := if_pos hk1
            rw [f2] at eB
            clear h2 h3 hk1 f1 f2
            go_wp2_with (first
              | (at_builtin; refine wpList_is2 rfl _ _ rfl w4.heap.size _ B wr.heap.size t.n rfl rfl (hI.g0 (Gr.alloc wr _ _)) (new_int wr t.n) lB.out ?_; intro v5 w5 hI5 g5; have G5 : Gr (fun _ => False) w4 w5 := (hG.trans (Gr.alloc wr (.cells #[.int .i64 t.n] 2) _)).trans' g5 (fun k hk e => by have := (ownsRow_lt hI.row k e).1; omega); have hN5 := (hN.g0 (Gr.alloc wr (.cells #[.int .i64 t.n] 2) _)).keep (hI.g0 (Gr.alloc wr (.cells #[.int .i64 t.n] 2) _)) g5; obtain ⟨tb5, tc5, hB5, z0, z1, z2, z3, z4⟩ := hTk'.out.gr (G24.trans G5); have hcv := conv_sb hB5.sb; obtain ⟨a5, c5, rfl⟩ := hI5.sv)
              | fail)
            have hl5 : (B ++ [t.n]).length = B.length + 1 := by simp
            exact hend.out _ _ _ _ w5 eA.out eB.out hN5 (by rw [← hl5]; exact hI5) G5
          have q1 : (t.k == 1) = false := by simpa using hk1
          have f2 : inK (tnOf t) = [] := if_neg hk1
          rw [f2, List.append_nil] at eB
          clear h2 h3 hk1 f1 f2
          have hcv := conv_sb hBq.sb
          go_wp2_with fail
          exact hend.out _ _ _ _ wr eA.out eB.out hN hI hG
        · have h1 : decide ((i : Int) < (l.length : Int)) = false := by simp; omega
          obtain rfl : i = l.length := by omega
          rw [List.take_length] at hN hI ⊢
          obtain ⟨⟨z0, z1, z2, z3, z4⟩, _⟩ := five_cells (hG.keep hl4 (fun e => e))
          have repR : Rep (fun k => k < wr.heap.size) wr T _ := (rep4.out.g0 hG).turn (fun z hz hl => ⟨hl, rfl⟩)
          have hO : (preL [T]).length ≤ 4000 := by have := hcnt.out; rw [List.length_map] at this; have := hlen.out; omega
          have htk : (preL [T]).take 30000 = preL [T] := List.take_of_length_le (by omega)
          have htk4 : (preL [T]).take 4000 = preL [T] := List.take_of_length_le (by omega)
          have hall := all_c T wr wr.heap.size _ 30000 repR (Nat.le_refl _) (by decide) (by decide)
          rw [htk] at hall
          have hnam := fun w (g : Gr (fun _ => False) wr w) => names_c w T _ (repR.turn (A' := fun k => k < w.heap.size) (fun z hz hl => ⟨Nat.lt_of_lt_of_le hz g.size, g.block z hl (fun e => e)⟩)) hszs.out
          rw [htk4] at hnam
          obtain ⟨na, nc, rfl⟩ := hN.sv
          obtain ⟨ia, ic, rfl⟩ := hI.sv
          have e1 : l.flatMap (fun t => nmK (tnOf t)) = nms (preL [T]) := by rw [y1.out, List.flatMap_map]
          have e2 : l.flatMap (fun t => inK (tnOf t)) = (preL [T]).flatMap inT := by rw [y2.out, List.flatMap_map]
          have e3 : l.flatMap (·.b) = (preL [T]).flatMap byT := by rw [y3.out, List.flatMap_map]; rfl
          rw [e1] at hN
          rw [e2] at hI
          have lb : ((preL [T]).flatMap byT).length ≤ 4000 * 16384 := by rw [← e3]; have := lt_by l hsh.out; have := hlen.out; omega
          rw [e1, e2, e3]
          clear e1 e2 e3 y1 y2 y3 hcnt htk htk4
          generalize preL [T] = O at *
          obtain ⟨Z, hZ⟩ : ∃ Z, O.flatMap inT = Z := ⟨_, rfl⟩
          rw [hZ] at hI ⊢
          replace hZ := Lib.hid hZ
          replace hnam := Lib.hid hnam
          go_wp2_with fail
          refine hall.mono ?_
          rintro e w5 ⟨v5, us, rfl, hrow, hreps, g5⟩
          obtain ⟨oa, oc, rfl⟩ := ownsRow_sv hrow
          have hat2 := fun (w : World) (g : Gr (fun _ => False) w5 w) i k s n b q hi => row_at5 (W := w) (ownsRow_gr hrow g (fun _ _ e => e)) (hreps.turn (A' := fun k => k < wr.heap.size) (fun z hz hl => ⟨hz, g.block z hl (fun e => e)⟩)) i k s n b q hi
          replace hat2 := Lib.hid hat2
          clear hall hrow hreps
          go_wp2_with fail
          go_loopw [7, 10, 13] (fun u7 u10 u13 w => ∃ i : Nat, i ≤ O.length ∧ u13 = .int .i64 (i : Int) ∧ u7 = .int .i64 ((((O.take i).flatMap inT).length : Nat) : Int) ∧ u10 = .string (sb ((O.drop i).flatMap byT)) ∧ Gr (fun _ => False) w5 w) (fun _ _ u13 _ => O.length - (intOf u13).toNat)
          case atStart => exact ⟨0, Nat.zero_le _, rfl, by rw [List.take_zero]; rfl, by rw [List.drop_zero], Gr.refl _ _⟩
          case round =>
            obtain ⟨j, hj, rfl, rfl, rfl, hJ⟩ := hrel
            by_cases hlt2 : j < O.length
            · have h1 : decide ((j : Int) < (O.length : Int)) = true := by simp; omega
              have hOi : O[j]? = some O[j] := List.getElem?_eq_getElem hlt2
              generalize O[j] = U at hOi
              obtain ⟨k, ts, n, b, q⟩ := U
              have hT : Hid ((O.take (j + 1)).flatMap inT = (O.take j).flatMap inT ++ inT (.mk k ts n b q)) := by
                show _ = _
                rw [List.take_add_one, hOi, List.flatMap_append]; simp
              have hD : (O.drop j).flatMap byT = b ++ (O.drop (j + 1)).flatMap byT := by
                obtain ⟨hq, hq2⟩ := List.getElem?_eq_some_iff.1 hOi
                rw [List.drop_eq_getElem_cons hq, hq2, List.flatMap_cons]; rfl
              have hF : Hid (O.flatMap inT = (O.take j).flatMap inT ++ (inT (.mk k ts n b q) ++ (O.drop (j + 1)).flatMap inT)) := by
                show _ = _
                rw [← List.append_assoc, ← hT.out, ← List.flatMap_append, List.take_append_drop]
              have hRl : b.length + ((O.drop (j + 1)).flatMap byT).length ≤ 4000 * 16384 := by
                have e : (O.flatMap byT) = (O.take j).flatMap byT ++ (O.drop j).flatMap byT := by rw [← List.flatMap_append, List.take_append_drop]
                rw [e, hD, List.length_append, List.length_append] at lb
                omega
              rw [hZ.out] at hF
              rw [hD]
              obtain ⟨R, hRe⟩ : ∃ R, (O.drop (j + 1)).flatMap byT = R := ⟨_, rfl⟩
              rw [hRe] at hRl hD ⊢
              replace hRe := Lib.hid hRe
              obtain ⟨at', hat'⟩ : ∃ at', ((O.take j).flatMap inT).length = at' := ⟨_, rfl⟩
              rw [hat']
              obtain ⟨g, c, ba, bc, e, x0, x2, x3, hSb⟩ := hat2.out wr hJ j k ts n b q hOi
              simp only [Value.slice.injEq, true_and] at e
              obtain ⟨rfl, rfl⟩ := e
              have hcv := conv_sb hSb
              have hiw := hI.g0 (g5.trans hJ)
              have hXs : (sb (b ++ R)).size = b.length + R.length := by rw [sb_len, List.length_append]
              have hX2 : (sb (b ++ R)).extract 0 b.length = sb b := by
                rw [← sb_app]; apply ByteArray.ext; simp [sb]
              have hX3 : (sb (b ++ R)).extract b.length (b.length + R.length) = sb R := by
                rw [← sb_app]; apply ByteArray.ext; simp [sb, List.take_of_length_le]
              generalize sb (b ++ R) = X at hXs hX2 hX3 ⊢
              have hXd : decide ((X.size : Int) < (b.length : Int)) = false := by simp; omega
              have hXl : (b.length : Int) ≤ (X.size : Int) := by omega
              have hXm : (X.size : Int) ≤ 65536000 := by omega
              have hXn : b.length ≤ X.size := by omega
              rw [← hXs] at hX3
              replace hXs := Lib.hid hXs
              have hcvn : ∀ nq, (convert 22 9 (.slice ba b.length bc)).run Tryd.prog (wr.drewN nq) = .ok (.string (sb b)) (wr.drewN nq) := fun nq => conv_sb (hSb.gr (Gr.drewN wr nq _))
              have hcvm : ∀ nq nr, (convert 22 9 (.slice ba b.length bc)).run Tryd.prog ((wr.drewN nq).drewN nr) = .ok (.string (sb b)) ((wr.drewN nq).drewN nr) := fun nq nr => conv_sb (hSb.gr ((Gr.drewN wr nq _).trans (Gr.drewN _ nr _)))
              by_cases hk1 : k = 1
              · have q1 : (k == 1) = true := by simpa using hk1
                have hTe : inT (.mk k ts n b q) = [n] := if_pos hk1
                rw [hTe] at hT hF
                have hZa : Z[at']? = some n := by rw [hF.out, ← hat']; simp
                obtain ⟨ig, rfl, hcZ⟩ := is_at' hiw at' n hZa
                have hal : at' < Z.length := (List.getElem?_eq_some_iff.1 hZa).1
                have hal' : ¬ Z.length ≤ at' := by omega
                have hZl := hI.len
                have hZI : (Z.length : Int) ≤ 40000 := by omega
                have haI : (at' : Int) < (Z.length : Int) := by omega
                have hTl : Hid (((O.take (j + 1)).flatMap inT).length = at' + 1) := by show _ = _; rw [hT.out, List.length_append, hat']; rfl
                clear hTe hk1 hZa
                go_wp2_with fail
                go_quiet (fail)
                go_wp2_with fail
                go_quiet (fail)
                go_wp2_with fail
                exact ⟨⟨j + 1, hlt2, by go_num, by rw [hTl.out]; go_num, by rw [hRe.out], hJ.trans (Gr.drewN _ _ _)⟩, by simp [intOf]; omega⟩
              · have q1 : (k == 1) = false := by simpa using hk1
                have hTe : inT (.mk k ts n b q) = [] := if_neg hk1
                rw [hTe, List.append_nil] at hT
                have hTl : Hid (((O.take (j + 1)).flatMap inT).length = at') := by show _ = _; rw [hT.out, hat']
                clear hTe hk1
                go_wp2_with fail
                go_quiet (fail)
                go_wp2_with fail
                exact ⟨⟨j + 1, hlt2, by go_num, by rw [hTl.out], by rw [hRe.out], hJ.trans (Gr.drewN _ _ _)⟩, by simp [intOf]; omega⟩
            · have h1 : decide ((j : Int) < (O.length : Int)) = false := by simp; omega
              obtain rfl : j = O.length := by omega
              rw [List.take_length, List.drop_length, hZ.out]
              have hb0 : sb (List.flatMap byT []) = ⟨#[]⟩ := rfl
              rw [hb0]
              obtain ⟨⟨z0, z1, z2, z3, z4⟩, _⟩ := five_cells ((hG.trans (g5.trans hJ)).keep hl4 (fun e => e))
              have hNw := hN.g0 (g5.trans hJ)
              go_wp2_with fail
              refine (hnam.out wr (g5.trans hJ)).mono ?_
              rintro e w6 ⟨v6, rfl, hN6, g6⟩
              obtain ⟨va6, vc6, rfl⟩ := hN6.sv
              go_wp2_with fail
              refine (texts_c w6 _ _ _ _ _ hN6 (hNw.g0 g6)).mono ?_
              rintro e w7 ⟨rfl, g7⟩
              go_wp2_with fail
              go_ret
              exact ⟨rfl, hgr.out _ (((G24.trans (hG.trans (g5.trans hJ))).trans g6).trans g7)⟩
end Go.Proofs.YtbmbgnmkakkpfaaDoor
