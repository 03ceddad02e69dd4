/-
  Carried over from another seat of ours (GKb).
-/
import Derived.Test.YtggkjkkbkpnkiaaGreatDoorGK
set_option linter.unusedVariables false
set_option linter.unusedSimpArgs false
namespace Go.Proofs.YtggkjkkbkpnkiaaGreatDoor
open Go.RowKit Go.Maps
variable {x : Kx} {W W' : World} {pb : Nat} {p p' : Ps}
set_option maxRecDepth 100000 in
set_option maxHeartbeats 16000000 in
theorem down0_c (d : Nat) (g : Rule) (hg : DownOk x 1 d g) : DownOk x 0 d (joinV x.ts sgs0 g (1)) := by
  intro W pb p u1 u3 h hd c1 c3 hn1 hn3
  have hl1 := World.block_lt_of_cell? _ _ c1
  have hl3 := World.block_lt_of_cell? _ _ c3
  obtain ⟨r, hr⟩ : ∃ r, r = joinV x.ts sgs0 g (1) p := ⟨_, rfl⟩
  rw [← hr]
  have Hr := Lib.hid hr
  clear hr
  have hb := h.lt
  have h0 := h.g0 (Gr.alloc W (.cells zc 30) _)
  have hb0 := heap_alloc_new W (.cells zc 30)
  have g0 : Gr (fun _ => False) W (W.alloc (.cells zc 30)) := Gr.alloc _ _ _
  have hz0 : (W.alloc (.cells zc 30)).heap.size = W.heap.size + 1 := by simp
  go_enter Tryz.func70, Tryz.ntmps70
  go_wp2_with fail
  generalize W.alloc (.cells zc 30) = W0 at h0 hb0 g0 hz0 ⊢
  obtain ⟨b, hbb⟩ : ∃ b, W.heap.size = b := ⟨_, rfl⟩
  have hbp : pb < b := by omega
  rw [hbb] at hb0 hz0 ⊢
  refine (hg W0 pb p u1 u3 h0 hd (cell_gr c1 g0 (fun e => e)) (cell_gr c3 g0 (fun e => e)) hn1 hn3).mono ?_
  rintro e w1 ⟨v, rfl, rep1, h1, ⟨hd1, hi1⟩, g1⟩
  obtain ⟨tk, tt, tn, a1, n1, c1', a2, n2, c2, rfl⟩ := rep1.agg
  have hs1 := g1.size
  have G2 := Gr.alloc w1 (.cells #[.int .i64 tk, .string tt, .int .i64 tn, .slice a1 n1 c1', .slice a2 n2 c2] 30) (fun _ => False)
  have hl2 := heap_alloc_new w1 (.cells #[.int .i64 tk, .string tt, .int .i64 tn, .slice a1 n1 c1', .slice a2 n2 c2] 30)
  have hbl := h1.lt
  go_wp2_with fail
  generalize w1.alloc _ = w2 at G2 hl2 ⊢
  obtain ⟨lb, hlb⟩ : ∃ lb, w1.heap.size = lb := ⟨_, rfl⟩
  have hlbb : b < lb := by omega
  rw [hlb] at hl2 ⊢
  have rep2 : Rep (fun z => b + 1 ≤ z ∧ z ≠ lb) w2 (g p).1 (trv tk tt tn (.slice a1 n1 c1') (.slice a2 n2 c2)) := rep1.turn (fun z hz hl => ⟨⟨by omega, by omega⟩, G2.block z hl (fun e => e)⟩)
  have h2 := h1.g0 G2
  have hb2 := G2.keep (g1.keep hb0 (by omega)) (fun e => e)
  have g2 : Gr (fun k => k = pb) W w2 := ((g0.any _).trans g1).trans (G2.any _)
  have Hd := Lib.hid hd
  clear rep1 h1 g1 G2 hd h0 hb0 hs1 hbl g0 hz0
  go_loopw [6] (fun u wr => ∃ (T : Tr) (q : Ps) (f : Nat) (k : Int) (s : ByteArray) (n : Int) (b1 : Option Addr) (b2 b3 : Nat) (l1 : Option Addr) (l2 l3 : Nat), Hid (f = 1) ∧ Hid (r = joinL x.ts sgs0 g f T q) ∧ wr.heap[lb]? = some (.cells #[.int .i64 k, .string s, .int .i64 n, .slice b1 b2 b3, .slice l1 l2 l3] 30 (0, 0)) ∧
      Hid (Rep (fun z => b + 1 ≤ z ∧ z ≠ lb) wr T (trv k s n (.slice b1 b2 b3) (.slice l1 l2 l3))) ∧ Pz x wr pb q ∧ Hid (q.d = p.d ∧ p.i ≤ q.i) ∧ wr.heap[b]? = some (.cells zc 30 (0, 0)) ∧ Gr (fun k => k = pb) W wr) (fun u wr => x.ts.length - atP wr pb)
  case atStart => exact ⟨(g p).1, (g p).2, 1, _, _, _, _, _, _, _, _, _, rfl, Hr.out, hl2, rep2, h2, ⟨hd1, hi1⟩, hb2, g2⟩
  case round =>
    obtain ⟨T, q, f, k, s, n, b1, b2, b3, l1, l2, l3, hf, Hq, hL, hRep, hP, hq, hB, hG⟩ := hrel
    have hbl := hP.lt
    have Hat := Lib.hid hP.atP
    have k1 := cell_gr c1 hG hn1
    have k3 := cell_gr c3 hG hn3
    have kv := hP.lv.lev0
    have hx1 := World.block_lt_of_cell? _ _ k1
    have hx3 := World.block_lt_of_cell? _ _ kv
    have hlw : lb < wr.heap.size := (Array.getElem?_eq_some_iff.1 hL).1
    have s1 : ST u1 pb 0 lw0 wr.drew := ⟨k1, kv⟩
    obtain ⟨z1, z2⟩ := s1
    have s1 : ST u1 pb 0 lw0 wr.drew := ⟨z1, z2⟩
    have hD := hP.g0 (Gr.drew wr _)
    have hF := fields0_c hD.lv
    clear hl2 rep2 h2 hb2 g2
    have hC := fun w3 (G3 : Gr (fun _ => False) wr.drew w3) h3 => contains_c (hD.g0 G3) wr.drew.heap.size sgs0 h3 (by decide)
    have hany := @any_lt x q sgs0
    cases hav : sgs0.any (isV x.ts q) with
    | true =>
      rw [hav] at hC
      obtain ⟨hlc, he, hlt⟩ := hany hav
      have Hq2 : r = (.mk 8 (pkT x.ts q).s 0 [] [T, (g q.next).1], (g q.next).2) := by
        rw [Hq.out, hf.out, joinL, if_pos hav]; rfl
      have hsz := hP.hS _ (List.mem_of_getElem? (hP.at hlc).2.2.1)
      have hpk := fun w hp => gpeek_c (x := x) (W := w) (pb := pb) (p := q) hp
      obtain ⟨va, vn, vc, hv⟩ := hP.tokB
      rw [hv] at hpk
      generalize pkT x.ts q = t at hpk hsz Hq2
      subst Hq2
      have hm : Hid (q.i ≤ 100000) := by have := hP.hm; show _ ≤ _; omega
      replace hC : Hid (∀ w3, Gr (fun _ => False) wr.drew w3 → w3.heap[wr.drew.heap.size]? = some (.cells (sgs0.map Value.string).toArray 9 (0, 0)) → Calls Tryz.prog 72 #[.slice (some ⟨wr.drew.heap.size, 0, none⟩) 6 6, .func (.func 48) #[pt pb] #[]] w3 fun e w' => e = .returned (.bool true) ∧ Gr (fun _ => False) w3 w') := hC
      clear hany Hq hav
      go_wp2_with fail
      go_region_held3 (ST u1 pb 0 lw0) (with_reducible assumption)
        (first
          | (go_at_call 73; with_reducible refine hF.mono ?_; rintro e w3 ⟨rfl, hw3⟩; have G3 : Gr (fun _ => False) wr.drew w3 := hw3 ▸ Gr.alloc _ _ _; have hrow3 : w3.heap[wr.drew.heap.size]? = some (.cells (sgs0.map Value.string).toArray 9 (0, 0)) := hw3 ▸ heap_alloc_new _ _; clear hw3; have s2 : ST u1 pb 0 lw0 w3 := ⟨cell_gr s1.1 G3 (fun e => e), cell_gr s1.2 G3 (fun e => e)⟩)
          | (go_at_call 72; refine (hC.out w3 G3 hrow3).mono ?_; rintro e w4 ⟨rfl, g4⟩; have s3 : ST u1 pb 0 lw0 w4 := ⟨cell_gr s2.1 g4 (fun e => e), cell_gr s2.2 g4 (fun e => e)⟩)
          | fail)
      all_goals
        have h4 := (hD.g0 G3).g0 g4
        have G4 : Gr (fun _ => False) wr w4 := ((Gr.drew wr _).trans G3).trans g4
        have e1 := s3.1
        go_wp2_with fail
        refine (hpk w4 h4).mono ?_
        rintro e w5 ⟨rfl, g5⟩
        have hfl := fld1 t.k t.s t.n va vn vc t.o
        go_wp2_with fail
        refine (clone_g t.s w5 hsz).mono ?_
        rintro e w6 ⟨rfl, g6⟩
        have G6 : Gr (fun _ => False) wr w6 := (G4.trans g5).trans g6
        have h6 := hP.g0 G6
        have j1 := cell_gr k1 G6 (fun e => e)
        have j3 := cell_gr k3 G6 (fun e => e)
        have hL6 := G6.keep hL (fun e => e)
        have hB6 := G6.keep hB (fun e => e)
        obtain ⟨⟨p0, p1, p2, p3⟩, o0, o1, o2, o3⟩ := h6.facts
        have hi2 : (q.i : Int) ≤ 100000 := by have := hm.out; omega
        obtain ⟨h7, g7⟩ := h6.step he hlt
        go_wp2_with fail
        generalize w6.setCell ⟨pb, 1, none⟩ (.int .i64 ((q.i : Int) + 1)) = w7 at h7 g7 ⊢
        have hsz6 := G6.size
        have i1 := cell_gr j1 g7 hn1
        have i3 := cell_gr j3 g7 hn3
        have hL7 := g7.keep hL6 (by omega)
        have hB7 := g7.keep hB6 (by omega)
        clear p0 p1 p2 p3 o0 o1 o2 o3 e1
        have hD7 := h7.g0 (Gr.drew w7 _)
        have gc := hg w7.drew pb q.next u1 u3 hD7 (by show q.d = d; rw [hq.out.1]; exact Hd.out) i1 i3 hn1 hn3
        obtain ⟨⟨m0, m1, m2, m3, m4⟩, f0, f1, f2, f3, f4⟩ := five_cells hL7
        unfold EndR at gc
        replace gc := Lib.hid gc
        have hs7 := g7.size
        have hlb7 : lb < w7.heap.size := by omega
        clear s1 s2 s3 z1 z2 hF hC hpk k1 k3 kv j1 j3 hL6 hB6 h6 h4 hD hx1 hx3 hL hB hP hsz6 G3 hrow3 g4 G4 g5 g6 hfl hsz
        go_region_with (first
          | (go_at_call 70; refine gc.out.mono ?_; rintro e w8 ⟨v, rfl, rep8, h8, hi8, g8⟩; obtain ⟨tk', tt', tn', a1', n1', c1'', a2', n2', c2', rfl⟩ := rep8.agg; have hL8 := g8.keep (o := .cells #[.int .i64 k, .string s, .int .i64 n, .slice b1 b2 b3, .slice l1 l2 l3] 30 (0, 0)) hL7 (by omega); have F8 := (five_cells hL8); obtain ⟨⟨y0, y1, y2, y3, y4⟩, v0, v1, v2, v3, v4⟩ := F8; have hs8 := g8.size)
          | (go_at_call 18; refine (node_c _ 8 t.s _ 2 2).mono ?_; rintro e w9 ⟨rfl, g9⟩; have hL9 := g9.keep (o := .cells #[.int .i64 k, .string s, .int .i64 n, .slice b1 b2 b3, .slice l1 l2 l3] 30 (0, 0)) ((Gr.alloc w8 _ (fun _ => False)).keep hL8 (fun e => e)) (fun e => e); have F9 := (five_cells hL9); obtain ⟨⟨y0, y1, y2, y3, y4⟩, v0, v1, v2, v3, v4⟩ := F9)
          | fail)
        all_goals
          obtain ⟨hLf, Rf, Pf, hBf, Gf⟩ := join_step (t := t.s) hbp (Nat.le_of_eq hbb) hlbb hlw hRep.out hG G6 g7 g8 rep8 h8 hB7 g9 hL9
          have hi9 : q.i + 1 ≤ (g q.next).2.i := hi8.2
          have hd9 : (g q.next).2.d = q.d := hi8.1
          obtain ⟨wf, hwf⟩ : ∃ wf, wf = set5 w9 lb (.int .i64 8) (.string t.s) (.int .i64 0) nl (.slice (some ⟨w8.heap.size, 0, none⟩) 2 2) := ⟨_, rfl⟩
          rw [← hwf] at hLf Rf Pf hBf Gf
          rw [show ((((w9.setCell ⟨lb, 0, none⟩ (.int .i64 8)).setCell ⟨lb, 1, none⟩ (.string t.s)).setCell ⟨lb, 2, none⟩ (.int .i64 0)).setCell ⟨lb, 3, none⟩ (.slice none 0 0)).setCell ⟨lb, 4, none⟩ (.slice (some ⟨w8.heap.size, 0, none⟩) 2 2) = wf from hwf.symm]
          clear hwf
          have n2' : Hid ((g q.next).2.d = p.d ∧ p.i ≤ (g q.next).2.i) := by have := hq.out; exact ⟨hd9.trans this.1, by omega⟩
          clear rep8 y0 y1 y2 y3 y4 v0 v1 v2 v3 v4 hL9 hL8 hi8 m0 m1 m2 m3 m4 f0 f1 f2 f3 f4
          obtain ⟨⟨y0, y1, y2, y3, y4⟩, v0, v1, v2, v3, v4⟩ := five_cells hLf
          obtain ⟨⟨m0, m1, m2, m3, m4⟩, f0, f1, f2, f3, f4⟩ := five_cells hBf
          have hnl : lb ≠ b := by omega
          have hwl : lb < wf.heap.size := (Array.getElem?_eq_some_iff.1 hLf).1
          have hwb : b < wf.heap.size := by omega
          go_wp2_with fail
          have rep : Rep (fun z => b + 1 ≤ z) wf _ _ := Rf.turn (fun z hz hl => ⟨hz.1, rfl⟩)
          obtain ⟨hf', r1, r2, r3⟩ := fin_tree hBf rep Pf hbp Gf hbb
          clear m0 m1 m2 m3 m4 y0 y1 y2 y3 y4
          obtain ⟨⟨m0, m1, m2, m3, m4⟩, _⟩ := five_cells hf'
          exact bodyPost_ret (v := trv 8 t.s 0 nl (.slice (some ⟨w8.heap.size, 0, none⟩) 2 2)) (by simp [results, Tryz.results70, go_sem, m0, m1, m2, m3, m4]) rfl ⟨_, rfl, r1, r2, n2'.out, r3⟩
    | false =>
      rw [hav] at hC
      have Hq2 : r = (T, q) := by
        rw [Hq.out]
        rw [hf.out, joinL, if_neg (by rw [hav]; decide)]
      subst Hq2
      replace hC : Hid (∀ w3, Gr (fun _ => False) wr.drew w3 → w3.heap[wr.drew.heap.size]? = some (.cells (sgs0.map Value.string).toArray 9 (0, 0)) → Calls Tryz.prog 72 #[.slice (some ⟨wr.drew.heap.size, 0, none⟩) 6 6, .func (.func 48) #[pt pb] #[]] w3 fun e w' => e = .returned (.bool false) ∧ Gr (fun _ => False) w3 w') := hC
      clear hany Hq hav
      go_wp2_with fail
      go_region_held3 (ST u1 pb 0 lw0) (with_reducible assumption)
        (first
          | (go_at_call 73; with_reducible refine hF.mono ?_; rintro e w3 ⟨rfl, hw3⟩; have G3 : Gr (fun _ => False) wr.drew w3 := hw3 ▸ Gr.alloc _ _ _; have hrow3 : w3.heap[wr.drew.heap.size]? = some (.cells (sgs0.map Value.string).toArray 9 (0, 0)) := hw3 ▸ heap_alloc_new _ _; clear hw3; have s2 : ST u1 pb 0 lw0 w3 := ⟨cell_gr s1.1 G3 (fun e => e), cell_gr s1.2 G3 (fun e => e)⟩)
          | (go_at_call 72; refine (hC.out w3 G3 hrow3).mono ?_; rintro e w4 ⟨rfl, g4⟩; have s3 : ST u1 pb 0 lw0 w4 := ⟨cell_gr s2.1 g4 (fun e => e), cell_gr s2.2 g4 (fun e => e)⟩)
          | fail)
      all_goals
        have h4 := (hD.g0 G3).g0 g4
        have G4 : Gr (fun _ => False) wr w4 := ((Gr.drew wr _).trans G3).trans g4
        have hL4 := G4.keep hL (fun e => e)
        have hB4 := G4.keep hB (fun e => e)
        obtain ⟨⟨y0, y1, y2, y3, y4⟩, v0, v1, v2, v3, v4⟩ := five_cells hL4
        obtain ⟨⟨m0, m1, m2, m3, m4⟩, f0, f1, f2, f3, f4⟩ := five_cells hB4
        have hs4 := G4.size
        have hlb4 : lb < w4.heap.size := by omega
        have hbl4 : b < w4.heap.size := by omega
        have hnl : lb ≠ b := by omega
        clear s1 s2 s3 z1 z2
        go_wp2_with fail
        have gN : Gr (fun k => k = pb) W w4 := hG.trans (G4.any _)
        have rep : Rep (fun z => b + 1 ≤ z) w4 T (trv k s n (.slice b1 b2 b3) (.slice l1 l2 l3)) := hRep.out.turn (fun z hz hl => ⟨hz.1, G4.block z hl (fun e => e)⟩)
        obtain ⟨hf', r1, r2, r3⟩ := fin_tree hB4 rep h4 hbp gN hbb
        clear m0 m1 m2 m3 m4 y0 y1 y2 y3 y4
        obtain ⟨⟨m0, m1, m2, m3, m4⟩, _⟩ := five_cells hf'
        exact bodyPost_ret (v := trv k s n (.slice b1 b2 b3) (.slice l1 l2 l3)) (by simp [results, Tryz.results70, go_sem, m0, m1, m2, m3, m4]) rfl ⟨_, rfl, r1, r2, hq.out, r3⟩
end Go.Proofs.YtggkjkkbkpnkiaaGreatDoor


