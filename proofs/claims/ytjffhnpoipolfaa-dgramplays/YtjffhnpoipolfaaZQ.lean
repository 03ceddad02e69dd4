/-
  DgramPlays: its walk.
-/
import Derived.Test.YtjffhnpoipolfaaZP
import Derived.Test.YtjffhnpoipolfaaL
import Derived.Deep.RegionHeld3
import Derived.Deep.DrawnRows
set_option linter.unusedVariables false
set_option linter.unusedSimpArgs false
namespace Go.Proofs.Ytjffhnpoipolfaa
open Go.RowKit Go.Maps Go.WideMaps
variable {S S' Y : Nat → Prop} {W W1 W' : World}
set_option maxRecDepth 20000 in
set_option maxHeartbeats 8000000 in
theorem plays_walk (W : World) (nodes : Int) (a : Option Addr) (len cap : Nat) (o : Nat → Opd) (hS : Scr W a len cap o) : Calls Try.prog 3 #[.int .i64 nodes, .slice a len cap] W fun e w' => e = .returned (.bool true) ∧ G0 W w' := by
  have hl := hS.len
  obtain ⟨hc1, hc2⟩ := hS.cap
  have HS := Lib.hid hS
  clear hS
  cases hn : nod nodes 64 with
  | false =>
    by_cases h1 : nodes < 1
    · go_enter Try.func3, Try.ntmps3
      go_wp2_with fail
      refine (alive_c W).mono ?_
      rintro e w1 ⟨rfl, hg1⟩
      have Hg1 := Lib.hid hg1
      clear hg1
      go_wp2_with fail
      refine (new_bad w1 nodes hn).mono ?_
      rintro e w2 ⟨rfl, rfl⟩
      go_wp2
      go_ret
      exact ⟨rfl, Hg1.out⟩
    · have h2 : 64 < nodes := by simp [nod] at hn; omega
      go_enter Try.func3, Try.ntmps3
      go_wp2_with fail
      refine (alive_c W).mono ?_
      rintro e w1 ⟨rfl, hg1⟩
      have Hg1 := Lib.hid hg1
      clear hg1
      go_wp2_with fail
      refine (new_bad w1 nodes hn).mono ?_
      rintro e w2 ⟨rfl, rfl⟩
      go_wp2
      go_ret
      exact ⟨rfl, Hg1.out⟩
  | true =>
    have h1 : ¬ nodes < 1 := by simp [nod] at hn; omega
    have h2 : ¬ 64 < nodes := by simp [nod] at hn; omega
    go_enter Try.func3, Try.ntmps3
    go_wp2_with fail
    refine (alive_c W).mono ?_
    rintro e w1 ⟨rfl, hg1⟩
    have Hg1 := Lib.hid hg1
    clear hg1
    go_wp2_with fail
    refine (new_c w1 nodes hn).mono ?_
    rintro e w2 ⟨s2, rfl, hn2', hg2, hs2, hf2⟩
    have hsz1 := Hg1.out.size
    have H2 : Hd W w2 s2 := ⟨Hg1.out.trans hg2, hn2', fun k hk => Nat.le_trans hsz1 (hf2 k hk)⟩
    have hq2 : ∀ i, s2.q i = [] := fun i => by rw [hs2]; rfl
    have hz2 : s2.z = 0 := by rw [hs2]; rfl
    have hse2 : s2.sent = 0 := by rw [hs2]; rfl
    have hlo2 : s2.lost = 0 := by rw [hs2]; rfl
    have hnd2 : s2.nodes = nodes := by rw [hs2]; rfl
    have hG2 := Lib.hid H2.g
    have F2 : Hid (Pr W (w2.alloc (.cells #[.int .i64 nodes, .int .u64 0, nl, nl, .int .i64 0] 32)) s2 s2.p w2.heap.size nodes 0 (fun _ => False) 0 0 nl nl [] []) := Lib.hid
      ⟨H2.g0 (Gr.alloc _ _ _), rfl, hnd2, by omega, heap_alloc_new _ _, H2.g.size, ⟨hse2.symm, hlo2.symm, by rw [hq2]; rfl, fun k => by rw [hq2]; rfl⟩, ⟨World.ownsRow_nil _ _ _ _, fun g e => (by cases e), fun x hx => (by cases hx)⟩, ⟨World.ownsRow_nil _ _ _ _, fun g e => (by cases e), fun x hx => (by cases hx)⟩, fun k e => e.elim, by simp⟩
    have hsc := Lib.hid (HS.out.g0 H2.g)
    clear hn2' hg2 hs2 hf2 hsz1 H2 hq2 hz2 hse2 hlo2 hnd2
    obtain ⟨p, hp⟩ : ∃ p, s2.p = p := ⟨_, rfl⟩
    rw [hp] at F2 ⊢
    clear hp
    go_wp2_with fail
    refine (long_c w2 a len cap o hsc.out).mono ?_
    rintro e w3 ⟨x, rfl, rfl⟩
    cases x with
    | true =>
      go_wp2
      go_ret
      exact ⟨rfl, hG2.out⟩
    | false =>
      go_wp2_with fail
      obtain ⟨mk, hmk⟩ : ∃ mk, w2.heap.size = mk := ⟨_, rfl⟩
      rw [hmk] at F2 ⊢
      clear hmk
      go_loopw [8, 9, 10, 11, 12, 13, 14, 15, 16, 17, 18, 19] (fun j _ _ _ _ _ _ _ _ _ _ _ wr => ∃ i : Nat, ∃ s Y sent lost wv bv lw lb, i ≤ len ∧ i ≤ 300 ∧ j = .int .i64 (i : Int) ∧ Pr W wr s p mk nodes i Y sent lost wv bv lw lb) (fun j _ _ _ _ _ _ _ _ _ _ _ _ => 300 - (intOf j).toNat)
      case atStart => exact ⟨0, s2, _, 0, 0, nl, nl, [], [], Nat.zero_le _, by omega, rfl, F2.out⟩
      case round =>
        obtain ⟨i, s, Y, sent, lost, wv, bv, lw, lb, hi, hi3, rfl, hR⟩ := hrel
        by_cases hlt : i < len ∧ i < 300
        · obtain ⟨hlt, h3⟩ := hlt
          obtain ⟨b, off, rfl, h0, h1, h2, h3', h4, h5, h6⟩ := (HS.out.g0 hR.hd.g).cell i hlt
          have hI : (i : Int) < (len : Int) := by omega
          have hI3 : (i : Int) < 300 := by omega
          have hsl := Lib.hid (HS.out.sl i hlt)
          have hmm := Lib.hid (HS.out.ok i hlt)
          have HR := Lib.hid hR
          have Hi3 := Lib.hid hi3
          clear hR hi3 hi F2
          go_wp2_with fail
          refine (kind_c wr (o i).k (o i).f (o i).t (o i).i (o i).a (o i).m (o i).bv _ _ _ rfl).mono ?_
          rintro e w4 ⟨rfl, hg4⟩
          have hs4 : wr.heap.size ≤ w4.heap.size := hg4.size
          obtain ⟨K, hK⟩ : ∃ K, kd (o i).k = K := ⟨_, rfl⟩
          have hKb := Lib.hid (hK ▸ kd_bb (o i).k)
          rw [hK]
          have g4 : G0 wr (w4.alloc (.cells #[.int .i64 K, .int .i64 (o i).f, .int .i64 (o i).t, .int .i64 (o i).i, .int .i64 (o i).a, .int .u32 ((o i).m : Int), (o i).bv] 36)) := hg4.trans (Gr.alloc _ _ _)
          have H4 := Lib.hid (HR.out.hd.g0 g4)
          have G4 := Lib.hid g4
          clear hg4 hK g4 h0 h1 h2 h3' h4 h5 h6
          go_wp2_with fail
          have tn := do_net _ s H4.out.nt (by have := HR.out.z; omega) K (o i).f (o i).t (o i).i (o i).a (o i).m (o i).bv (o i).l (hsl.out.g0 H4.out.g) hmm.out hKb.out.1 hKb.out.2
          rw [HR.out.p] at tn
          refine tn.mono ?_
          clear tn
          rintro e w5 ⟨s5, d, ok, c, rfl, hx5, ho5, hb5⟩
          have H5 := Lib.hid (H4.out.step hx5)
          have Hx5 := Lib.hid hx5
          have Ho5 := Lib.hid ho5
          have Hb5 := Lib.hid hb5
          have hB5 : w5.heap[w4.heap.size]? = some (.cells #[.int .i64 K, .int .i64 (o i).f, .int .i64 (o i).t, .int .i64 (o i).i, .int .i64 (o i).a, .int .u32 ((o i).m : Int), (o i).bv] 36 (0, 0)) := (hx5.gr.block _ (by simp) (fun e => by have := (HR.out.hd.nt).lt e; omega)).trans (heap_alloc_new _ _)
          have hm4 := (G4.out.block mk (lt_of_blk HR.out.mb) (fun e => e)).trans HR.out.mb
          have hM5 := (hx5.gr.block mk (lt_of_blk hm4) (notfp32 H4.out.nt hm4)).trans hm4
          clear hx5 ho5 hb5 hm4
          obtain ⟨va, vl, vc, rfl⟩ : ∃ a n c, wv = .slice a n c := by obtain ⟨a, c, e, _⟩ := ownsRow_sv HR.out.rw_.row; exact ⟨_, _, _, e⟩
          obtain ⟨ba, bl, bc, rfl⟩ : ∃ a n c, bv = .slice a n c := by obtain ⟨a, c, e, _⟩ := ownsRow_sv HR.out.rb.row; exact ⟨_, _, _, e⟩
          have hml5 : mk < w5.heap.size := lt_of_blk hM5
          have h45 : w4.heap.size < w5.heap.size := lt_of_blk hB5
          have hml6 : mk < w5.heap.size + 1 := by omega
          have h46 : w4.heap.size < w5.heap.size + 1 := by omega
          obtain ⟨q0, q1, q2, q3, q4, _⟩ := five hM5
          obtain ⟨p0, p1, p2, p3, p4, p5, p6⟩ := seven hB5
          have HM5 := Lib.hid hM5
          clear hM5 hB5
          go_wp2_with fail
          generalize hw6 : World.alloc (World.alloc _ _) _ = w6
          have g56 : G0 w5 w6 := by rw [← hw6]; exact (Gr.alloc _ _ _).trans (Gr.alloc _ _ _)
          have z56 : w6.heap.size = w5.heap.size + 1 + 1 := by rw [← hw6]; simp
          have T10 : w6.heap[w5.heap.size]? = some (.cells #[.int .i64 d.f, .int .i64 d.t, .int .u64 d.n, .slice d.a d.l d.c, .bool d.sp] 39 (0, 0)) := by rw [← hw6, heap_alloc_old _ _ (by simp)]; exact heap_alloc_new _ _
          have T13 : w6.heap[w5.heap.size + 1]? = some (.cells #[.int .i64 0, .int .i64 0, .int .u64 0, nl, .bool false] 39 (0, 0)) := by rw [← hw6]; exact alloc_at _ _ _ (by simp)
          have M6 := (g56.block mk (lt_of_blk HM5.out) (fun e => e)).trans HM5.out
          have HT10 := Lib.hid T10
          have HT13 := Lib.hid T13
          have HM6 := Lib.hid M6
          have Hg56 := Lib.hid g56
          have Hz56 := Lib.hid z56
          clear T10 T13 M6 g56 z56 hw6
          have tR := refdo (W := w6) (Y := Y) (ob := (o i).bv) HR.out.rel (HR.out.rw_.keep (fun k hk => (HR.out.yk G4.out Hx5.out Hg56.out k hk).1)) (HR.out.rb.keep (fun k hk => (HR.out.yk G4.out Hx5.out Hg56.out k hk).1)) (fun k hk => (HR.out.yk G4.out Hx5.out Hg56.out k hk).2) HR.out.nd (by rw [HR.out.rel.len]; exact HR.out.hd.nt.wl) (by have := HR.out.lb; have := Hi3.out; omega) (by have := HR.out.rel.sent; have := HR.out.hd.nt.sm; have := HR.out.z; omega) (by have := HR.out.rel.lost; have := HR.out.hd.nt.sm; have := HR.out.z; omega) (hsl.out.g0 (H5.out.g.trans Hg56.out)) hmm.out Ho5.out
          refine tR.mono ?_
          clear tR
          rintro e w7 ⟨nv, dd, ok', c', rfl, ⟨rfl, rfl, htk, sent', lost', wv', bv', lw', lb', rfl, hrel', hrw', hrb', hlb'⟩, hg7⟩
          obtain ⟨f0, t0, n0, da, dc, xa, xc, l0, sp0, rfl, rfl, hs5', hsx, hl0, hbz⟩ := two_same HR.out G4.out Hx5.out Hg56.out Ho5.out Hb5.out htk
          dsimp only at HT10
          obtain ⟨va', vl', vc', rfl⟩ : ∃ a n c, wv' = .slice a n c := by obtain ⟨a, c, e, _⟩ := ownsRow_sv hrw'.row; exact ⟨_, _, _, e⟩
          obtain ⟨ba', bl', bc', rfl⟩ : ∃ a n c, bv' = .slice a n c := by obtain ⟨a, c, e, _⟩ := ownsRow_sv hrb'.row; exact ⟨_, _, _, e⟩
          have M7 := (hg7.block mk (lt_of_blk HM6.out) (fun e => e)).trans HM6.out
          have T7 := (hg7.block _ (lt_of_blk HT13.out) (fun e => e)).trans HT13.out
          have D7 := (hg7.block _ (lt_of_blk HT10.out) (fun e => e)).trans HT10.out
          obtain ⟨m0, m1, m2, m3, m4, m5, m6, m7, m8, m9⟩ := five M7
          obtain ⟨x0, x1, x2, x3, x4, x5, x6, x7, x8, x9⟩ := five T7
          have HM7 := Lib.hid M7
          have HT7 := Lib.hid T7
          have HD7 := Lib.hid D7
          have Hg7 := Lib.hid hg7
          have Hrel' := Lib.hid hrel'
          have Hrw' := Lib.hid hrw'
          have Hrb' := Lib.hid hrb'
          have Hlb' := Lib.hid hlb'
          have Hs5' := Lib.hid hs5'
          have Hsx := Lib.hid hsx
          have Hl0 := Lib.hid hl0
          have Hbz := Lib.hid hbz
          clear M7 T7 D7 hg7 hrel' hrw' hrb' hlb' hs5' hsx hl0 hbz htk q0 q1 q2 q3 q4 p0 p1 p2 p3 p4 p5 p6
          go_wp2_with fail
          generalize hw8 : World.setCell _ ⟨w5.heap.size + 1, 4, none⟩ (.bool sp0) = w8
          have hk8 : ∀ k, k ≠ mk → k ≠ w5.heap.size + 1 → w8.heap[k]? = w7.heap[k]? := fun k k1 k2 => by rw [← hw8]; exact (five_old _ _ _ _ _ _ k2).trans (five_old w7 _ _ _ _ _ k1)
          have M8 : w8.heap[mk]? = some (.cells #[.int .i64 nodes, .int .u64 (sent' : Int), .slice va' vl' vc', .slice ba' bl' bc', .int .i64 (lost' : Int)] 32 (0, 0)) := by rw [← hw8]; exact (five_old _ _ _ _ _ _ (by omega)).trans (set5_blk HM7.out _ _ _ _ _)
          have T8 : w8.heap[w5.heap.size + 1]? = some (.cells #[.int .i64 f0, .int .i64 t0, .int .u64 (n0 : Int), .slice xa l0.length xc, .bool sp0] 39 (0, 0)) := by rw [← hw8]; exact set5_blk ((five_old _ _ _ _ _ _ (by omega)).trans HT7.out) _ _ _ _ _
          have D8 := (hk8 w5.heap.size (by omega) (by omega)).trans HD7.out
          have g8 : Gr (fun k => k = mk ∨ k = w5.heap.size + 1) w7 w8 := by rw [← hw8]; exact ((Gr.refl _ w7).cell5 mk _ _ _ _ _ (.inl (.inl rfl))).cell5 _ _ _ _ _ _ (.inl (.inr rfl))
          have hz6 : w5.heap.size + 1 < w6.heap.size := by have := Hz56.out; omega
          have P8 := Lib.hid (HR.out.step G4.out Hx5.out Hg56.out Hg7.out g8 ⟨by omega, hz6⟩ M8 Hrel'.out Hrw'.out Hrb'.out Hlb'.out)
          have SA := Lib.hid ((sl_two (Hs5'.out) (Hg56.out.trans Hg7.out) hk8 (by omega) HM5.out (Hbz.out.imp id (fun ⟨g, e1, _, e2, _⟩ => ⟨g, e1, e2⟩))).g0 (Gr.drew w8 _))
          have SB := Lib.hid ((Hsx.out.keep (W' := w8) (fun k hk => hk8 k (by rcases hk with e | e; (· exact (HR.out.y k e).2.2); (· omega)) (by rcases hk with e | e; (· have := (HR.out.y k e).1; omega); (· omega)))).1.g0 (Gr.drew w8 _))
          have hL : Hid (∀ w, G0 w8.drew w → Calls Try.prog 15 #[pt p] w fun e w' => e = .returned (.int .i64 (lost' : Int)) ∧ w = w') := Lib.hid (fun w hg => by
            have := lost_c w s5 (P8.out.hd.nt.g0 ((Gr.drew w8 _).trans hg))
            rw [P8.out.p, ← Hrel'.out.lost] at this
            exact this)
          obtain ⟨u0, u1, u2, u3, u4', _⟩ := five ((Gr.drew w8 (fun _ => False)).block _ (lt_of_blk D8) (fun e => e) |>.trans D8)
          obtain ⟨v0, v1, v2, v3, v4, _⟩ := five ((Gr.drew w8 (fun _ => False)).block _ (lt_of_blk T8) (fun e => e) |>.trans T8)
          obtain ⟨_, _, _, _, y4, _⟩ := five ((Gr.drew w8 (fun _ => False)).block _ (lt_of_blk M8) (fun e => e) |>.trans M8)
          have s18 : S18 w5.heap.size (w5.heap.size + 1) mk (.int .i64 f0) (.int .i64 t0) (.int .u64 (n0 : Int)) (.slice da l0.length dc) (.bool sp0) (.int .i64 f0) (.int .i64 t0) (.int .u64 (n0 : Int)) (.slice xa l0.length xc) (.bool sp0) (.int .i64 (lost' : Int)) w8.drew := ⟨u0, u1, u2, u3, u4', v0, v1, v2, v3, v4, y4⟩
          have HM8 := Lib.hid M8
          have HD8 := Lib.hid D8
          have G78 := Lib.hid g8
          clear hw8 hk8 M8 T8 D8 g8 hz6 m0 m1 m2 m3 m4 m5 m6 m7 m8 m9 x0 x1 x2 x3 x4 x5 x6 x7 x8 x9
          go_region_held3 (S18 w5.heap.size (w5.heap.size + 1) mk (.int .i64 f0) (.int .i64 t0) (.int .u64 (n0 : Int)) (.slice da l0.length dc) (.bool sp0) (.int .i64 f0) (.int .i64 t0) (.int .u64 (n0 : Int)) (.slice xa l0.length xc) (.bool sp0) (.int .i64 (lost' : Int))) (with_reducible assumption)
            (first
              | (go_at_call 14; with_reducible refine (same_r w8.drew f0 t0 n0 (.slice da l0.length dc) (.slice xa l0.length xc) l0 sp0 SA.out SB.out).mono ?_; rintro e w9 ⟨rfl, hg9⟩; have s19 := S18.g0 s18 hg9; have G9 := Lib.hid hg9; clear hg9)
              | (go_at_call 15; with_reducible refine (hL.out w9 G9.out).mono ?_; rintro e w10 ⟨rfl, rfl⟩)
              | fail)
          rename_i hHd
          clear hHd
          have P9 := Lib.hid (P8.out.g0 ((Gr.drew w8 _).trans G9.out))
          have D9 := Lib.hid (((((Gr.drew w8 _).trans G9.out).block _ (lt_of_blk HD8.out) (fun e => e))).trans HD8.out)
          have hz9 : w8.heap.size ≤ w9.heap.size := G9.out.size
          have hDl : w5.heap.size < w8.heap.size := lt_of_blk HD8.out
          have hln0 : (l0.length : Int) ≤ 1212 := by have := Hl0.out; omega
          have Z0 : Hid (l0.length = 0 ∨ ∃ g, da = some ⟨g, 0, none⟩ ∧ dc = l0.length ∧ By w9 g l0.length) := Lib.hid (Hbz.out.imp id (fun ⟨g, e1, e2, e3, _⟩ => ⟨g, e1, e2, by
            have hmn : g ≠ mk := fun e => by obtain ⟨cur, h1, _⟩ := e3; rw [e, HM5.out] at h1; simp at h1
            have hgl := e3.lt
            exact (((e3.gr Hg56.out (fun e => e)).gr Hg7.out (fun e => e)).gr G78.out (by omega)).gr ((Gr.drew w8 (fun _ => False)).trans G9.out) (fun e => e)⟩))
          obtain ⟨n0', hn0'⟩ : ∃ n, l0.length = n := ⟨_, rfl⟩
          have Hn0 := Lib.hid hn0'
          rw [hn0'] at hln0 Z0 D9 ⊢
          clear s18 s19 hn0' u0 u1 u2 u3 u4' v0 v1 v2 v3 v4 y4
          go_wp2_with fail
          go_loopw [16] (fun jv wt => ∃ j : Nat, j ≤ n0' ∧ jv = .int .i64 (j : Int) ∧ Zd da dc n0' w9 wt) (fun jv _ => n0' - (intOf jv).toNat)
          case atStart => exact ⟨0, Nat.zero_le _, rfl, ⟨Gr.refl _ _, Z0.out⟩⟩
          case round =>
            obtain ⟨j, hj, rfl, hgw, hzz⟩ := hrel
            have hgw0 : ∀ k, (∃ off, da = some ⟨k, off, none⟩ ∧ 0 < n0') → k < w5.heap.size ∧ k ≠ mk ∧ ¬ Fp s5 k ∧ W.heap.size ≤ k ∧ ¬ Y k := by
              rintro k ⟨off, e, hp⟩
              rcases Hbz.out with e1 | ⟨g, e1, e2, e3, e4, e5⟩
              · rw [Hn0.out] at e1; omega
              · rw [e1] at e
                cases e
                exact ⟨e3.lt, fun e => (by obtain ⟨cur, h1, _⟩ := e3; rw [e, HM5.out] at h1; simp at h1), e4, HR.out.hd.fp _ e5, fun hy => (HR.out.y _ hy).2.1 e5⟩
            have Hgw0 := Lib.hid hgw0
            clear hgw0
            have Dw := Lib.hid ((hgw.block _ (by omega) (fun e => by have := (Hgw0.out _ e).1; omega)).trans D9.out)
            obtain ⟨b0, b1, b2, b3, b4, _⟩ := five Dw.out
            have Hgw := Lib.hid hgw
            by_cases hlt2 : j < n0'
            · obtain ⟨g, rfl, rfl, hby⟩ : ∃ g, da = some ⟨g, 0, none⟩ ∧ dc = n0' ∧ By wr g n0' := by
                rcases hzz with e | e
                · omega
                · exact e
              obtain ⟨x, hx, cx, fx⟩ := hby.at_ hlt2
              have hjI : (j : Int) < (dc : Int) := by omega
              have Hby := Lib.hid hby
              clear hzz hgw hby
              go_wp2_with fail
              exact ⟨⟨j + 1, by omega, by go_num, ⟨Hgw.out.cell _ _ (.inl ⟨0, rfl, by omega⟩), .inr ⟨g, rfl, rfl, Hby.out.set j 0 (by omega)⟩⟩⟩, by simp [intOf]; omega⟩
            · have hjI : ¬ (j : Int) < (n0' : Int) := by omega
              have Pt := Lib.hid (P9.out.gr hgw (fun k _ e => by
                have h1 := Hgw0.out k e
                have h2 := Hg56.out.size
                exact ⟨h1.2.2.2.1, h1.2.2.1, h1.2.1, fun hy => by rcases hy.1 with e | e; (· exact h1.2.2.2.2 e); (· omega)⟩))
              clear hgw hzz
              go_wp2_with fail
              · have tf := flight_c wr s5 Pt.out.hd.nt
                rw [Pt.out.p] at tf
                refine tf.mono ?_
                clear tf
                rintro e wF ⟨gF, l', rfl, hrow, hcp, hgN, hgF⟩
                have PF := Lib.hid (Pt.out.g0 hgF)
                have HN : Hid (∀ k, wr.heap.size ≤ k → W.heap.size ≤ k ∧ ¬ Fp s5 k ∧ k ≠ mk ∧ ¬ ((Y k ∨ w6.heap.size ≤ k) ∧ k < w7.heap.size)) := Lib.hid (fun k hk => ⟨Nat.le_trans Pt.out.hd.g.size hk, fun e => (by have := Pt.out.hd.nt.lt e; omega), (by have := lt_of_blk Pt.out.mb; omega), fun e => (by have := (Pt.out.y k e).1; omega)⟩)
                obtain ⟨n1, hn1⟩ : ∃ n1, (s5.q none).length = n1 := ⟨_, rfl⟩
                have hl' : l'.length = n1 := (cps_len hcp).trans hn1
                have hn1b : (n1 : Int) ≤ 1024 := by have := Pt.out.hd.nt.wl; omega
                rw [hn1] at hrow ⊢
                have tA := all_r wF (.slice (some ⟨gF, 0, none⟩) n1 n1) (.slice va' vl' vc') (l'.map toX) lw' (by rw [flat_toX, List.length_map, hl']; exact hrow) PF.out.rw_.row (cps_sl Pt.out.hd.nt hcp) (fun d hd => (PF.out.rw_.byt d hd).1) (by rw [abx_toX, hcp.ab, PF.out.rel.way]) (by rw [List.length_map, hl']; exact hn1b)
                have HA := Lib.hid tA
                have Hrow := Lib.hid hrow
                have Hcp := Lib.hid hcp
                have HgF := Lib.hid hgF
                have HgN := Lib.hid hgN
                have Hl' := Lib.hid hl'
                obtain ⟨m0, m1, m2, m3, m4, _⟩ := five PF.out.mb
                clear tA hrow hcp hgF hgN hl' hn1
                go_wp2_with fail
                refine HA.out.mono ?_
                rintro e wA ⟨rfl, hgA⟩
                have PA := Lib.hid (PF.out.g0 hgA)
                have HF0 := Lib.hid (cps_fl (g := gF) Pt.out.hd.nt Hcp.out hgA)
                have RA : Hid (wA.ownsRow 0 39 5 (.slice (some ⟨gF, 0, none⟩) l'.length l'.length) l'.length (flat l')) := Lib.hid (by rw [Hl'.out]; exact ownsRow_g0 Hrow.out hgA)
                obtain ⟨N, hN⟩ : ∃ N, wr.heap.size = N := ⟨_, rfl⟩
                rw [hN] at HN HF0
                have Hok := Lib.hid (cps_ok Pt.out.hd.nt Hcp.out)
                clear hN
                clear hgA m0 m1 m2 m3 m4
                go_wp2_with fail
                go_loopw [18, 19] (fun kv _ wt => ∃ k : Nat, k ≤ n1 ∧ kv = .int .i64 (k : Int) ∧ Fl N gF wA wt l') (fun kv _ _ => n1 - (intOf kv).toNat)
                case atStart => exact ⟨0, Nat.zero_le _, rfl, HF0.out⟩
                case round =>
                  obtain ⟨k, hk, rfl, hF⟩ := hrel
                  by_cases hlt3 : k < n1
                  · obtain ⟨D, hD⟩ : ∃ D, l'[k]? = some D := ⟨_, List.getElem?_eq_getElem (by rw [Hl'.out]; exact hlt3)⟩
                    have hDm := List.mem_of_getElem? hD
                    have hkI : (k : Int) < (n1 : Int) := by omega
                    obtain ⟨gz, cz, ez, _, _, _, a0, a1, a2, a3, a4⟩ := row_at (ownsRow_of_block RA.out (W' := wr) (fun x e => by cases e; exact hF.row)) hD
                    obtain rfl : gF = gz := by injection ez with e3; injection e3 with e3; injection e3 with e3
                    have hDn : D.bk ≠ gF := fun e => by
                      obtain ⟨cur, h1, _⟩ := (hF.by_ D hDm).1
                      rcases RA.out.2 with ⟨e1, _⟩ | ⟨g', cap', cur', e1, q1, q2, _⟩
                      · cases e1
                      · cases e1
                        rw [e, hF.row, q2] at h1
                        simp at h1
                    have hDl : (D.by'.length : Int) ≤ 1212 := by have := (Hok.out D hDm).1; omega
                    have HDm := Lib.hid hDm
                    have HDn := Lib.hid hDn
                    have HD := Lib.hid hD
                    have HF := Lib.hid hF
                    obtain ⟨dl, hdl⟩ : ∃ dl, D.by'.length = dl := ⟨_, rfl⟩
                    have Hdl := Lib.hid hdl
                    simp only [Dg.bv] at a3
                    rw [hdl] at hDl a3
                    clear hF hDm hDn hD ez hdl
                    go_wp2_with fail
                    go_loopw [19] (fun jv wt => ∃ j : Nat, j ≤ dl ∧ jv = .int .i64 (j : Int) ∧ Fl N gF wA wt l') (fun jv _ => dl - (intOf jv).toNat)
                    case atStart => exact ⟨0, Nat.zero_le _, rfl, HF.out⟩
                    case round =>
                      obtain ⟨j, hj, rfl, hF⟩ := hrel
                      obtain ⟨gz, cz, ez, _, _, _, c0, c1, c2, c3, c4⟩ := row_at (ownsRow_of_block RA.out (W' := wr) (fun x e => by cases e; exact hF.row)) HD.out
                      obtain rfl : gF = gz := by injection ez with e3; injection e3 with e3; injection e3 with e3
                      simp only [Dg.bv] at c3
                      rw [Hdl.out] at c3
                      have HF := Lib.hid hF
                      by_cases hlt4 : j < dl
                      · have hjI : (j : Int) < (dl : Int) := by omega
                        obtain ⟨x, hx, cx, fx⟩ := (hF.by_ D HDm.out).1.at_ (j := j) (by rw [Hdl.out]; exact hlt4)
                        clear hF ez
                        go_wp2_with fail
                        exact ⟨⟨j + 1, by omega, by go_num, HF.out.set HDm.out j 0 (by omega) HDn.out⟩, by simp [intOf]; omega⟩
                      · have hjI : ¬ (j : Int) < (dl : Int) := by omega
                        clear hF ez
                        go_wp2_with fail
                        exact ⟨⟨k + 1, by omega, by go_num, HF.out⟩, by simp [intOf]; omega⟩
                  · have hkI : ¬ (k : Int) < (n1 : Int) := by omega
                    have Pe := Lib.hid (PA.out.gr hF.gr (fun k _ e => HN.out k e))
                    clear hF
                    go_wp2_with fail
                    exact ⟨⟨i + 1, s5, _, sent', lost', _, _, lw', lb', by omega, by omega, by go_num, Pe.out⟩, by simp [intOf]; omega⟩
              · exact ⟨⟨i + 1, s5, _, sent', lost', _, _, lw', lb', by omega, by omega, by go_num, Pt.out⟩, by simp [intOf]; omega⟩
        · by_cases hlt2 : i < len
          · have hI : (i : Int) < (len : Int) := by omega
            have hI3 : ¬ (i : Int) < 300 := by omega
            clear F2
            go_wp2_with fail
            have H0 := Lib.hid hR
            obtain ⟨va, vl, vc, rfl⟩ : ∃ a n c, wv = .slice a n c := by obtain ⟨a, c, e, _⟩ := ownsRow_sv hR.rw_.row; exact ⟨_, _, _, e⟩
            obtain ⟨ba, bl, bc, rfl⟩ : ∃ a n c, bv = .slice a n c := by obtain ⟨a, c, e, _⟩ := ownsRow_sv hR.rb.row; exact ⟨_, _, _, e⟩
            go_loopw [20] (fun kv wt => ∃ k : Nat, k ≤ 67 ∧ kv = .int .i64 ((k : Int) - 1) ∧ Pr W wt s p mk nodes i Y sent lost (.slice va vl vc) (.slice ba bl bc) lw lb) (fun kv _ => (67 - (intOf kv + 1)).toNat)
            case atStart => exact ⟨0, by omega, by simp, H0.out⟩
            case round =>
              obtain ⟨k, hk, rfl, hP⟩ := hrel
              have HP := Lib.hid hP
              obtain ⟨a0, a1, a2, a3, a4, _⟩ := five ((Gr.drew wr (fun _ => False)).block _ (lt_of_blk hP.mb) (fun e => e) |>.trans hP.mb)
              have s38 : S38 mk (.int .i64 nodes) (.int .u64 (sent : Int)) (.slice va vl vc) (.slice ba bl bc) (.int .i64 (lost : Int)) wr.drew := ⟨a0, a1, a2, a3, a4⟩
              obtain ⟨K, hK⟩ : ∃ K : Int, (k : Int) - 1 = K := ⟨_, rfl⟩
              have hKk := Lib.hid hK
              rw [hK]
              by_cases hlt5 : k < 67
              · have hKI : K ≤ 65 := by omega
                have hwf : (Lit.int .i64 K).wf = true := wf64 (by omega) (by omega)
                have tB1 := box_c wr.drew s (hP.hd.nt.g0 (Gr.drew _ _)) K hwf
                rw [hP.p, ← rel_cnt hP.rel K] at tB1
                have tB2 := box_r wr.drew nodes sent (.slice va vl vc) (.slice ba bl bc) lost K lb (ownsRow_g0 hP.rb.row (Gr.drew _ _)) (by have := hP.lb; omega)
                obtain ⟨bn, hbn⟩ : ∃ bn, cnt lb K = bn := ⟨_, rfl⟩
                rw [hbn] at tB1 tB2
                have HB1 := Lib.hid tB1
                have HB2 := Lib.hid tB2
                clear tB1 tB2 hbn hP hwf
                go_wp2_with fail
                go_region_held3 (S38 mk (.int .i64 nodes) (.int .u64 (sent : Int)) (.slice va vl vc) (.slice ba bl bc) (.int .i64 (lost : Int))) (with_reducible assumption)
                  (first
                    | (go_at_call 18; with_reducible refine HB1.out.mono ?_; rintro e w5 ⟨rfl, rfl⟩)
                    | (go_at_call 19; with_reducible refine HB2.out.mono ?_; rintro e w5 ⟨rfl, hg5⟩; have s39 := S38.g0 s38 hg5; have G5 := Lib.hid hg5; clear hg5)
                    | fail)
                rename_i hHd
                clear s38 s39 hHd a0 a1 a2 a3 a4
                go_wp2_with fail
                exact ⟨⟨k + 1, by omega, by have := hKk.out; simp; omega, HP.out.g0 ((Gr.drew _ _).trans G5.out)⟩, by have := hKk.out; simp [intOf]; omega⟩
              · have hKI : ¬ K ≤ 65 := by omega
                have HFl := Lib.hid (flight_all (hP.g0 (Gr.drew _ _)))
                clear hP
                go_wp2_with fail
                go_region_held3 (S38 mk (.int .i64 nodes) (.int .u64 (sent : Int)) (.slice va vl vc) (.slice ba bl bc) (.int .i64 (lost : Int))) (with_reducible assumption)
                  (first
                    | (go_at_call 16; with_reducible refine HFl.out.mono ?_; rintro e wF ⟨gF, n1, rfl, hgF, HA⟩; have s39 := S38.g0 s38 hgF; have GF := Lib.hid hgF; clear hgF)
                    | (go_at_call 17; with_reducible refine HA.out.mono ?_; rintro e wA ⟨rfl, hgA⟩; have s40 := S38.g0 s39 hgA; have GA := Lib.hid hgA; clear hgA)
                    | fail)
                go_wp2
                go_ret
                exact ⟨rfl, HP.out.hd.g.trans (((Gr.drew _ _).trans GF.out).trans GA.out)⟩
          · have hI : ¬ (i : Int) < (len : Int) := by omega
            clear F2
            go_wp2_with fail
            have H0 := Lib.hid hR
            obtain ⟨va, vl, vc, rfl⟩ : ∃ a n c, wv = .slice a n c := by obtain ⟨a, c, e, _⟩ := ownsRow_sv hR.rw_.row; exact ⟨_, _, _, e⟩
            obtain ⟨ba, bl, bc, rfl⟩ : ∃ a n c, bv = .slice a n c := by obtain ⟨a, c, e, _⟩ := ownsRow_sv hR.rb.row; exact ⟨_, _, _, e⟩
            go_loopw [20] (fun kv wt => ∃ k : Nat, k ≤ 67 ∧ kv = .int .i64 ((k : Int) - 1) ∧ Pr W wt s p mk nodes i Y sent lost (.slice va vl vc) (.slice ba bl bc) lw lb) (fun kv _ => (67 - (intOf kv + 1)).toNat)
            case atStart => exact ⟨0, by omega, by simp, H0.out⟩
            case round =>
              obtain ⟨k, hk, rfl, hP⟩ := hrel
              have HP := Lib.hid hP
              obtain ⟨a0, a1, a2, a3, a4, _⟩ := five ((Gr.drew wr (fun _ => False)).block _ (lt_of_blk hP.mb) (fun e => e) |>.trans hP.mb)
              have s38 : S38 mk (.int .i64 nodes) (.int .u64 (sent : Int)) (.slice va vl vc) (.slice ba bl bc) (.int .i64 (lost : Int)) wr.drew := ⟨a0, a1, a2, a3, a4⟩
              obtain ⟨K, hK⟩ : ∃ K : Int, (k : Int) - 1 = K := ⟨_, rfl⟩
              have hKk := Lib.hid hK
              rw [hK]
              by_cases hlt5 : k < 67
              · have hKI : K ≤ 65 := by omega
                have hwf : (Lit.int .i64 K).wf = true := wf64 (by omega) (by omega)
                have tB1 := box_c wr.drew s (hP.hd.nt.g0 (Gr.drew _ _)) K hwf
                rw [hP.p, ← rel_cnt hP.rel K] at tB1
                have tB2 := box_r wr.drew nodes sent (.slice va vl vc) (.slice ba bl bc) lost K lb (ownsRow_g0 hP.rb.row (Gr.drew _ _)) (by have := hP.lb; omega)
                obtain ⟨bn, hbn⟩ : ∃ bn, cnt lb K = bn := ⟨_, rfl⟩
                rw [hbn] at tB1 tB2
                have HB1 := Lib.hid tB1
                have HB2 := Lib.hid tB2
                clear tB1 tB2 hbn hP hwf
                go_wp2_with fail
                go_region_held3 (S38 mk (.int .i64 nodes) (.int .u64 (sent : Int)) (.slice va vl vc) (.slice ba bl bc) (.int .i64 (lost : Int))) (with_reducible assumption)
                  (first
                    | (go_at_call 18; with_reducible refine HB1.out.mono ?_; rintro e w5 ⟨rfl, rfl⟩)
                    | (go_at_call 19; with_reducible refine HB2.out.mono ?_; rintro e w5 ⟨rfl, hg5⟩; have s39 := S38.g0 s38 hg5; have G5 := Lib.hid hg5; clear hg5)
                    | fail)
                rename_i hHd
                clear s38 s39 hHd a0 a1 a2 a3 a4
                go_wp2_with fail
                exact ⟨⟨k + 1, by omega, by have := hKk.out; simp; omega, HP.out.g0 ((Gr.drew _ _).trans G5.out)⟩, by have := hKk.out; simp [intOf]; omega⟩
              · have hKI : ¬ K ≤ 65 := by omega
                have HFl := Lib.hid (flight_all (hP.g0 (Gr.drew _ _)))
                clear hP
                go_wp2_with fail
                go_region_held3 (S38 mk (.int .i64 nodes) (.int .u64 (sent : Int)) (.slice va vl vc) (.slice ba bl bc) (.int .i64 (lost : Int))) (with_reducible assumption)
                  (first
                    | (go_at_call 16; with_reducible refine HFl.out.mono ?_; rintro e wF ⟨gF, n1, rfl, hgF, HA⟩; have s39 := S38.g0 s38 hgF; have GF := Lib.hid hgF; clear hgF)
                    | (go_at_call 17; with_reducible refine HA.out.mono ?_; rintro e wA ⟨rfl, hgA⟩; have s40 := S38.g0 s39 hgA; have GA := Lib.hid hgA; clear hgA)
                    | fail)
                go_wp2
                go_ret
                exact ⟨rfl, HP.out.hd.g.trans (((Gr.drew _ _).trans GF.out).trans GA.out)⟩
end Go.Proofs.Ytjffhnpoipolfaa
