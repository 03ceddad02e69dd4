/-
  The reference's rules at every depth; its Parse.
  The reference's rules at every depth; its Parse of every row of tokens.
-/
import Derived.Test.YtggkjkkbkpnkiaaGreatDoorRS
import Derived.Test.YtggkjkkbkpnkiaaGreatDoorRJ
set_option linter.unusedVariables false
set_option linter.unusedSimpArgs false
namespace Go.Proofs.YtggkjkkbkpnkiaaGreatDoor
open Go.RowKit Go.Maps
variable {x : Kx} {W W' : World} {p p' : Ps}
def p00 : Ps := ⟨0, 0, 0⟩
set_option maxRecDepth 100000 in
set_option maxHeartbeats 1600000 in
theorem rparse_x (ex : Rule) (h : Rz x W p00) (hfun : ∀ (W : World) (p : Ps), Rz x W p → p.d = 0 → Calls Tryz.prog 13 #[stv x p] W fun e w' => EndF x W p e w' (funV x.ts ex p)) (r : List Tr × Ps) (hr : r = progV x.ts ex p00) (res : Except (Nat × Int) Tr) (hres : res = if r.2.e ≠ 0 then .error (r.2.i, r.2.e) else .ok (.mk 18 e0 0 [] r.1)) :
    Calls Tryz.prog 8 #[.slice x.a x.ts.length x.c] W fun e w' => EndP W e w' res := by
  obtain ⟨b, hb⟩ : ∃ b, W.heap.size = b := ⟨_, rfl⟩
  have hbW := Lib.hid hb
  obtain ⟨i0, hi0, hz0, hz1, hz2⟩ := info_parts info25
  have Hr : Hid (r = progL x.ts ex (2 * x.ts.length + 1) [] p00) := hr
  have hNb : Hid (x.N ≤ b) := by have := h.hN; show _ ≤ _; omega
  have hRm := Lib.hid h.hm
  have g0 : Gr (fun _ => False) W (((W.alloc zt).alloc (stb x p00)).alloc (.cells #[.int .i64 18, .string e0, .int .i64 0, nl, nl] 30)) := ((Gr.alloc W _ _).trans (Gr.alloc _ _ _)).trans (Gr.alloc _ _ _)
  have b0 : (((W.alloc zt).alloc (stb x p00)).alloc (.cells #[.int .i64 18, .string e0, .int .i64 0, nl, nl] 30)).heap[W.heap.size]? = some zt := (Gr.alloc _ _ (fun _ => False)).keep ((Gr.alloc _ _ (fun _ => False)).keep (heap_alloc_new W _) (fun e => e)) (fun e => e)
  have b1 : (((W.alloc zt).alloc (stb x p00)).alloc (.cells #[.int .i64 18, .string e0, .int .i64 0, nl, nl] 30)).heap[W.heap.size + 1]? = some (stb x p00) := by
    have h1 := heap_alloc_new (W.alloc zt) (stb x p00)
    have h2 := (Gr.alloc ((W.alloc zt).alloc (stb x p00)) (.cells #[.int .i64 18, .string e0, .int .i64 0, nl, nl] 30) (fun _ => False)).keep h1 (fun e => e)
    have hs : (W.alloc zt).heap.size = W.heap.size + 1 := by simp
    rw [hs] at h2
    exact h2
  have b2 : (((W.alloc zt).alloc (stb x p00)).alloc (.cells #[.int .i64 18, .string e0, .int .i64 0, nl, nl] 30)).heap[W.heap.size + 2]? = some (.cells #[.int .i64 18, .string e0, .int .i64 0, nl, nl] 30 (0, 0)) := by
    have h1 := heap_alloc_new ((W.alloc zt).alloc (stb x p00)) (.cells #[.int .i64 18, .string e0, .int .i64 0, nl, nl] 30)
    have hs : ((W.alloc zt).alloc (stb x p00)).heap.size = W.heap.size + 2 := by simp
    rw [hs] at h1
    exact h1
  have hsz : (((W.alloc zt).alloc (stb x p00)).alloc (.cells #[.int .i64 18, .string e0, .int .i64 0, nl, nl] 30)).heap.size = W.heap.size + 3 := by simp
  have R0 := h.g0 g0
  have HW : Hid ((((W.alloc zt).alloc (stb x p00)).alloc (.cells #[.int .i64 18, .string e0, .int .i64 0, nl, nl] 30)) = (((W.alloc zt).alloc (stb x p00)).alloc (.cells #[.int .i64 18, .string e0, .int .i64 0, nl, nl] 30))) := rfl
  have Hres := Lib.hid hres
  clear h hr hres
  go_enter Tryz.func8, Tryz.ntmps8
  go_wp2_with fail
  generalize hW1 : ((W.alloc zt).alloc (stb x p00)).alloc (.cells #[.int .i64 18, .string e0, .int .i64 0, nl, nl] 30) = W1 at g0 b0 b1 b2 hsz R0 HW
  rw [show ((W.alloc (.cells #[.int .i64 0, .string ⟨#[]⟩, .int .i64 0, .slice none 0 0, .slice none 0 0] 30)).alloc (.cells #[.slice x.a x.ts.length x.c, .int .i64 0, .int .i64 0, .int .i64 0] 45)).alloc (.cells #[.int .i64 18, .string ⟨#[]⟩, .int .i64 0, .slice none 0 0, .slice none 0 0] 30) = W1 from hW1]
  clear hW1 HW
  rw [hb] at b0 b1 b2 hsz
  have HL : Hid (LrE (b + 3) (fun z => b + 3 ≤ z) W1 [] nl p00) := LrE.nil (by omega)
  clear hb
  go_loopw [7] (fun u wr => ∃ (l' : List Tr) (q : Ps) (f : Nat) (ua : Option Addr) (ul uc : Nat), Hid (mu x.ts.length q ≤ f) ∧ Hid (r = progL x.ts ex f l' q) ∧ Hid (q.e = 0 → ul ≤ q.i) ∧ Hid (LrE (b + 3) (fun z => b + 3 ≤ z) wr l' (.slice ua ul uc) q) ∧ Rz x wr q ∧ wr.heap[b]? = some zt ∧ wr.heap[b + 1]? = some (stb x q) ∧ wr.heap[b + 2]? = some (.cells #[.int .i64 18, .string e0, .int .i64 0, nl, .slice ua ul uc] 30 (0, 0)) ∧ Hid (q.d = 0 ∧ q.i ≤ x.ts.length) ∧ Hid (Gr (fun _ => False) W wr)) (fun u wr => muP x.ts.length wr (b + 1))
  case atStart => exact ⟨[], p00, 2 * x.ts.length + 1, none, 0, 0, by show mu _ _ ≤ _; unfold mu; split <;> omega, Hr, fun _ => Nat.zero_le _, HL, R0, b0, b1, b2, ⟨rfl, Nat.zero_le _⟩, g0⟩
  case round =>
    clear HL R0 b0 b1 b2
    obtain ⟨l', q, f, ua, ul, uc, hf, Hq, hul, KL, hR, B0, B1, B2, hq, KG⟩ := hrel
    have K0 := Lib.hid B0
    have K1 := Lib.hid B1
    have KT := Lib.hid B2
    have KR := Lib.hid hR
    obtain ⟨⟨c0, c1, c2, c3⟩, f0, f1, f2, f3⟩ := four_cells B1
    have hbl : b + 1 < wr.heap.size := (Array.getElem?_eq_some_iff.1 B1).1
    have Hat : Hid (muP x.ts.length wr (b + 1) = mu x.ts.length q) := by show _ = _; simp [muP, mu, atP, erP, c1, c3]
    clear B0 B1 B2 hR
    by_cases hgo : q.e = 0 ∧ q.i < x.ts.length
    · obtain ⟨he, hl⟩ := hgo
      have qe : (q.e == 0) = true := by simp [he]
      have ql : decide ((q.i : Int) < (x.ts.length : Int)) = true := by simp; omega
      obtain ⟨fu, rfl⟩ : ∃ f', f = f' + 1 := ⟨f - 1, by have := hf.out; unfold mu at this; rw [if_pos he] at this; omega⟩
      have Hq2 : Hid (r = progL x.ts ex fu (l' ++ [(funV x.ts ex q).1]) (funV x.ts ex q).2) := by
        show r = _
        rw [Hq.out, progL, if_pos ⟨he, hl⟩]
      have hqe := Lib.hid he
      have hql := Lib.hid hl
      have hcall := Lib.hid (hfun wr q KR.out hq.out.1)
      clear he hl Hq
      go_wp2_with fail
      refine hcall.out.mono ?_
      rintro e w4 ⟨⟨tk, tt, tn, a1, n1, c1', a2, n2, c2', rfl, rep4, hi4, g4⟩, hadv⟩
      generalize (funV x.ts ex q).2 = q' at Hq2 rep4 hi4 hadv ⊢
      generalize (funV x.ts ex q).1 = T at Hq2 rep4 ⊢
      have Hi4 := Lib.hid hi4
      have Hadv := Lib.hid hadv
      have hown : Hid (∀ k, (Value.slice ua ul uc).ownBlock = some k → k < wr.heap.size) := by
        obtain ⟨_, _, _, hr3, _⟩ := KL.out
        exact fun k hk => (ownsRow_lt hr3 k hk).2
      have hb3 : Hid (b + 3 ≤ wr.heap.size) := (Array.getElem?_eq_some_iff.1 KT.out).1
      have rT : Hid (q'.e = 0 → Rep (fun z => b + 3 ≤ z ∧ (Value.slice ua ul uc).ownBlock ≠ some z) w4 T (trv tk tt tn (.slice a1 n1 c1') (.slice a2 n2 c2'))) := fun e => (rep4 e).turn (fun z hz hl => by
        have h7 : wr.heap.size ≤ z := hz
        refine ⟨⟨by have := hb3.out; omega, fun e => ?_⟩, rfl⟩
        have := hown.out z e
        omega)
      replace K0 := Lib.hid (g4.keep K0.out (fun e => e))
      replace K1 := Lib.hid (g4.keep K1.out (fun e => e))
      replace KT := Lib.hid (g4.keep KT.out (fun e => e))
      replace KL := Lib.hid (KL.out.gr g4 (fun _ _ e => e))
      replace KR := Lib.hid (KR.out.g0 g4)
      replace KG := Lib.hid (KG.out.trans g4)
      clear c0 c1 c2 c3 f0 f1 f2 f3 hbl rep4 hi4 hadv g4 hcall qe ql
      obtain ⟨⟨c0, c1, c2, c3⟩, f0, f1, f2, f3⟩ := four_cells K1.out
      obtain ⟨⟨n0, n1', n2', n3, n4⟩, l0, l1, l2, l3, l4⟩ := five_cells KT.out
      have hbl : b + 1 < w4.heap.size := (Array.getElem?_eq_some_iff.1 K1.out).1
      have hbt : b + 1 + 1 < w4.heap.size := (Array.getElem?_eq_some_iff.1 KT.out).1
      have hmq : Hid (ul ≤ q.i) := hul.out hqe.out
      have hb8 : b < w4.heap.size := by omega
      have hb7 : b < w4.heap.size + 1 := by omega
      have hb6 : b + 1 < w4.heap.size + 1 := by omega
      go_wp2_with (first
        | (at_builtin; generalize hX : World.alloc (World.alloc (World.alloc (World.setCell _ _ _) _) _) _ = X; obtain ⟨gX, X0, Xs, Xc⟩ := more_x (by omega) K1.out hX; obtain ⟨hLb, m, xs, hrow, hm, hownX, hreps⟩ := (KL.out.gr gX (fun k hk e => by have h8 : b + 3 ≤ k := hk; omega)); obtain ⟨_, _, hsv⟩ := ownsRow_sv hrow; have hul2 : ul = m := (by cases hsv; rfl); subst hul2; clear hsv; have HrX := Lib.hid hreps; have HoX := Lib.hid hownX; clear hreps hownX; refine wpList_own2 _ rfl 28 _ _ rfl (b + 3) 30 i0 (trv 0 e0 0 nl nl) 5 80 Tryz.underlying28 hi0 hz0 hz1 hz2 rfl (by decide) (.slice ua ul uc) ul xs ⟨w4.heap.size + 1 + 1, 0, none⟩ 1 1 [.int .i64 tk, .string tt, .int .i64 tn, .slice a1 n1 c1', .slice a2 n2 c2'] rfl rfl hrow rfl Xc (by simp [Value.oneCell']) (by unfold maxLen; have := hmq.out; have := hRm.out; have := hq.out; omega) (by have := hmq.out; have := hRm.out; have := hq.out; omega) (by omega) ?_; intro v' w9 hrow9 hgr9 hloc9; obtain ⟨a9, cap9, rfl⟩ := ownsRow_sv hrow9; clear hX; have Gg : Gr (fun k => (Value.slice ua ul uc).ownBlock = some k) X w9 := Gr.of_grown hgr9 (fun z e => e); have n9 : w9.heap[b + 1 + 1]? = some (.cells #[.int .i64 18, .string e0, .int .i64 0, nl, .slice ua ul uc] 30 (0, 0)) := Gg.keep (gX.keep KT.out (by omega)) (fun e => by have h8 : b + 3 ≤ b + 1 + 1 := HoX.out _ e; omega); have K9 := Lib.hid n9; obtain ⟨⟨q0, q1, q2, q3, q4⟩, qf0, qf1, qf2, qf3, qf4⟩ := five_cells n9; have htl9 : b + 1 + 1 < w9.heap.size := (Array.getElem?_eq_some_iff.1 n9).1; clear n9; have rTX : Hid (q'.e = 0 → Rep (fun z => b + 3 ≤ z ∧ (Value.slice ua ul uc).ownBlock ≠ some z) X T (trv tk tt tn (.slice a1 n1 c1') (.slice a2 n2 c2'))) := fun e => (rT.out e).turn (fun z hz hl => ⟨hz, gX.block z hl (by omega)⟩); have L9 : LrE (b + 3) (fun z => b + 3 ≤ z) w9 (l' ++ [T]) (.slice a9 (ul + 1) cap9) q' := LrE.grown (q := q) hLb hrow ⟨hmq.out, hm.2⟩ Hi4.out.2.1 HoX.out (fun z hz => by have h8 := hLb; show b + 3 ≤ z; omega) (fun e => HrX.out e) (fun _ => hqe.out) (fun e => rTX.out e) hgr9 hloc9 hrow9 ⟨rfl, rfl⟩; have gs4 : Gr (fun k => k = b + 2) w9 (w9.setCell ⟨b + 1 + 1, 4, none⟩ (.slice a9 (ul + 1) cap9)) := Gr.set _ _ _ rfl; have ZT : (w9.setCell ⟨b + 1 + 1, 4, none⟩ (.slice a9 (ul + 1) cap9)).heap[b + 2]? = some (.cells #[.int .i64 18, .string e0, .int .i64 0, nl, .slice a9 (ul + 1) cap9] 30 (0, 0)) := heap_setCell_same w9 (b + 2) 4 _ 30 _ K9.out; have Z0 := Lib.hid (gs4.keep (Gg.keep (gX.keep K0.out (by omega)) (fun e => by have h8 : b + 3 ≤ b := HoX.out _ e; omega)) (by omega)); have Z1 := Lib.hid (gs4.keep (Gg.keep X0 (fun e => by have h8 : b + 3 ≤ b + 1 := HoX.out _ e; omega)) (by omega)); have ZG := Lib.hid (((KG.out.trans' gX (fun k hk e => by have := hbW.out; omega)).trans' Gg (fun k hk e => by have h8 : b + 3 ≤ k := HoX.out k e; have := hbW.out; omega)).trans' gs4 (fun k hk e => by have := hbW.out; omega)); have ZR := Lib.hid ((((KR.out.gr gX (fun k hk e => by have := hNb.out; omega)).gr Gg (fun k hk e => by have h8 : b + 3 ≤ k := HoX.out k e; have := hNb.out; omega)).gr gs4 (fun k hk e => by have := hNb.out; omega)).to (p' := q') Hi4.out.2.2 (by have := Hi4.out.1; have := KR.out.hd; omega)); have ZL := Lib.hid (L9.gr gs4 (fun k hk e => by have h8 : b + 3 ≤ k := hk; omega)); replace ZT := Lib.hid ZT; clear L9 gs4)
        | fail)
      have n8 : muP x.ts.length (w9.setCell ⟨b + 1 + 1, 4, none⟩ (.slice a9 (ul + 1) cap9)) (b + 1) < muP x.ts.length wr (b + 1) := by
        have ea : muP x.ts.length (w9.setCell ⟨b + 1 + 1, 4, none⟩ (.slice a9 (ul + 1) cap9)) (b + 1) = mu x.ts.length q' := by
          obtain ⟨⟨_, e1, _, e3⟩, _⟩ := four_cells Z1.out
          simp [muP, mu, atP, erP, e1, e3]
        rw [ea, Hat.out]
        refine mu_lt hqe.out hql.out Hi4.out.2.1 ?_
        by_cases h9 : q'.e = 0
        · exact .inr (Hadv.out h9)
        · exact .inl h9
      have n1 : Hid (mu x.ts.length q' ≤ fu) := by
        have h9 : mu x.ts.length q' < mu x.ts.length q := by
          refine mu_lt hqe.out hql.out Hi4.out.2.1 ?_
          by_cases h9 : q'.e = 0
          · exact .inr (Hadv.out h9)
          · exact .inl h9
        have := hf.out
        show _ ≤ _
        omega
      exact ⟨⟨_, q', fu, a9, ul + 1, cap9, n1, Hq2, fun e => by have h8 := Hadv.out e; have h9 := hmq.out; omega, ZL, ZR.out, Z0.out, Z1.out, ZT.out, ⟨Hi4.out.1.trans hq.out.1, Hi4.out.2.2⟩, ZG⟩, n8⟩
    · have Hx : r = (l', q) := by
        rw [Hq.out]
        cases f with
        | zero => rfl
        | succ f => rw [progL, if_neg hgo]
      subst Hx
      replace hgo := Lib.hid hgo
      by_cases he : q.e = 0
      · have qe : (q.e == 0) = true := by simp [he]
        have qe' : (q.e != 0) = false := by simp [he]
        have ql : decide ((q.i : Int) < (x.ts.length : Int)) = false := by
          have h8 := hgo.out
          simp
          rcases Nat.lt_or_ge q.i x.ts.length with h9 | h9
          · exact absurd ⟨he, h9⟩ h8
          · omega
        have hge : x.ts.length ≤ q.i := by
          rcases Nat.lt_or_ge q.i x.ts.length with h9 | h9
          · exact absurd ⟨he, h9⟩ hgo.out
          · exact h9
        have ql2 : decide (q.i < x.ts.length) = false := by simp; omega
        have Hres2 : Hid (res = .ok (.mk 18 e0 0 [] l')) := by show res = _; rw [Hres.out]; exact if_neg (fun h => h he)
        have hrep := Lib.hid (KL.out.tree he 18 e0)
        have hqe := Lib.hid he
        obtain ⟨⟨n0, n1', n2', n3, n4⟩, l0, l1, l2, l3, l4⟩ := five_cells KT.out
        obtain ⟨⟨y0, y1, y2, y3, y4⟩, v0, v1, v2, v3, v4⟩ := five_cells K0.out
        have hbt : b + 1 + 1 < wr.heap.size := (Array.getElem?_eq_some_iff.1 KT.out).1
        have hb9 : b < wr.heap.size := by omega
        have gF := set5_gr wr b (.int .i64 18) (.string e0) (.int .i64 0) nl (.slice ua ul uc)
        have hF := set5_heap K0.out (.int .i64 18) (.string e0) (.int .i64 0) nl (.slice ua ul uc)
        have GF := KG.out.trans' gF (fun k hk e => by have := hbW.out; omega)
        have RF := (hrep.out).turn (A' := fun z => W.heap.size ≤ z) (W' := set5 wr b (.int .i64 18) (.string e0) (.int .i64 0) nl (.slice ua ul uc)) (fun z hz hl => ⟨by have h8 : b + 3 ≤ z := hz; have := hbW.out; show W.heap.size ≤ z; omega, gF.block z hl (by have h8 : b + 3 ≤ z := hz; omega)⟩)
        obtain ⟨wF, hwF⟩ : ∃ wF, set5 wr b (.int .i64 18) (.string e0) (.int .i64 0) nl (.slice ua ul uc) = wF := ⟨_, rfl⟩
        rw [hwF] at hF GF RF
        replace hF := Lib.hid hF
        replace GF := Lib.hid GF
        replace RF := Lib.hid RF
        replace hwF := Lib.hid hwF
        clear he gF KL KR KG
        go_wp2_with fail
        rw [show ((((wr.setCell ⟨b, 0, none⟩ (.int .i64 18)).setCell ⟨b, 1, none⟩ (.string e0)).setCell ⟨b, 2, none⟩ (.int .i64 0)).setCell ⟨b, 3, none⟩ nl).setCell ⟨b, 4, none⟩ (.slice ua ul uc) = wF from hwF.out]
        clear y0 y1 y2 y3 y4 v0 v1 v2 v3 v4 n0 n1' n2' n3 n4 l0 l1 l2 l3 l4
        have hF' := hF.out
        obtain ⟨⟨s0, s1, s2, s3, s4⟩, _⟩ := five_cells hF'
        exact bodyPost_ret (v := .tuple #[trv 18 e0 0 nl (.slice ua ul uc), .int .i64 0, .int .i64 0]) (by simp [results, Tryz.results8, go_sem, s0, s1, s2, s3, s4]) rfl (by rw [Hres2.out]; exact ⟨_, rfl, RF.out, GF.out⟩)
      · have qe : (q.e == 0) = false := by simpa using he
        have qe' : (q.e != 0) = true := by rw [bne_iff_ne]; exact he
        have Hres2 : Hid (res = .error (q.i, q.e)) := by show res = _; rw [Hres.out]; exact if_pos he
        have hqe := Lib.hid he
        have D0 : wr.drew.heap[b]? = some zt := K0.out
        have D1 : wr.drew.heap[b + 1]? = some (stb x q) := K1.out
        have Gd : Hid (Gr (fun _ => False) W wr.drew) := KG.out.trans (Gr.drew wr _)
        clear he
        go_wp2_with fail
        have TS : Gr (fun k => k = b) wr.drew wr.drew := Gr.refl _ _
        refine wp_region_L (L := 100) (T := fun w => Gr (fun k => k = b) wr.drew w) (by kernel_rfl) ?_
        clear c0 c1 c2 c3 f0 f1 f2 f3 hbl K0 K1 KT KL KR KG
        generalize wr.drew = wd at TS D0 D1 Gd ⊢
        obtain ⟨⟨d0, d1, d2, d3⟩, _⟩ := four_cells D1
        have gF := set5_gr wd b (.int .i64 0) (.string e0) (.int .i64 0) nl nl
        have hF := set5_heap D0 (.int .i64 0) (.string e0) (.int .i64 0) nl nl
        have GF := Gd.out.trans' gF (fun k hk e => by have := hbW.out; omega)
        obtain ⟨wF, hwF⟩ : ∃ wF, set5 wd b (.int .i64 0) (.string e0) (.int .i64 0) nl nl = wF := ⟨_, rfl⟩
        have TF : Gr (fun k => k = b) wd (set5 wd b (.int .i64 0) (.string e0) (.int .i64 0) nl nl) := gF
        rw [hwF] at hF GF
        replace hF := Lib.hid hF
        replace GF := Lib.hid GF
        replace hwF := Lib.hid hwF
        obtain ⟨⟨y0, y1, y2, y3, y4⟩, v0, v1, v2, v3, v4⟩ := five_cells D0
        have hb9 : b < wd.heap.size := (Array.getElem?_eq_some_iff.1 D0).1
        refine wpAnyN_at (i := 0) (v := (.agg #[.int .i64 0, .string e0, .int .i64 0, nl, nl])) (some 37) rfl rfl (by kernel_rfl) (by kernel_rfl) (by kernel_rfl) (by kernel_rfl) (fun _ _ _ h => h) (Or.inl ⟨by rfl, ?_⟩) TS ?_
        · intro w hSw
          go_simp
          try (intro h; exfalso; omega)
        try simp only [Act.put, List.setIfInBounds_toArray, List.set_cons_zero, List.set_cons_succ]
        refine wpAnyN_at (i := 1) (v := (ptr (b + 1) 1)) (some 38) rfl rfl (by kernel_rfl) (by kernel_rfl) (by kernel_rfl) (by kernel_rfl) (fun _ _ _ h => h) (Or.inl ⟨by rfl, ?_⟩) TS ?_
        · intro w hSw
          go_simp
          try (intro h; exfalso; omega)
        try simp only [Act.put, List.setIfInBounds_toArray, List.set_cons_zero, List.set_cons_succ]
        refine wpAnyN_at (i := 2) (v := (.int .i64 (q.i : Int))) (some 39) rfl rfl (by kernel_rfl) (by kernel_rfl) (by kernel_rfl) (by kernel_rfl) (fun _ _ _ h => h) (Or.inl ⟨by rfl, ?_⟩) TS ?_
        · intro w hSw
          have qq0 := cell_gr d1 hSw (by show ¬ (_ = _); omega)
          have qz := World.block_lt_of_cell? _ _ qq0
          go_simp
          try (intro h; exfalso; omega)
        try simp only [Act.put, List.setIfInBounds_toArray, List.set_cons_zero, List.set_cons_succ]
        refine wpAnyN_at (i := 3) (v := (ptr (b + 1) 3)) (some 40) rfl rfl (by kernel_rfl) (by kernel_rfl) (by kernel_rfl) (by kernel_rfl) (fun _ _ _ h => h) (Or.inl ⟨by rfl, ?_⟩) TS ?_
        · intro w hSw
          go_simp
          try (intro h; exfalso; omega)
        try simp only [Act.put, List.setIfInBounds_toArray, List.set_cons_zero, List.set_cons_succ]
        refine wpAnyN_at (i := 4) (v := (.int .i64 q.e)) (some 41) rfl rfl (by kernel_rfl) (by kernel_rfl) (by kernel_rfl) (by kernel_rfl) (fun _ _ _ h => h) (Or.inl ⟨by rfl, ?_⟩) TS ?_
        · intro w hSw
          have qq0 := cell_gr d3 hSw (by show ¬ (_ = _); omega)
          have qz := World.block_lt_of_cell? _ _ qq0
          go_simp
          try (intro h; exfalso; omega)
        try simp only [Act.put, List.setIfInBounds_toArray, List.set_cons_zero, List.set_cons_succ]
        refine wpAnyL_one (i := 5) (by kernel_rfl) rfl (fun K hK => ?_)
        go_simp
        refine hK.out _ _ (fun _ => TF) ?_
        clear hK K
        try simp only [Act.put, List.setIfInBounds_toArray, List.set_cons_zero, List.set_cons_succ]
        refine wpAnyN_at (i := 6) (v := (.int .i64 (q.i : Int))) (some 3) rfl rfl (by kernel_rfl) (by kernel_rfl) (by kernel_rfl) (by kernel_rfl) (fun _ _ _ h => h) (Or.inl ⟨by rfl, ?_⟩) TF ?_
        · intro w hSw
          go_simp
          try (intro h; exfalso; omega)
        try simp only [Act.put, List.setIfInBounds_toArray, List.set_cons_zero, List.set_cons_succ]
        refine wpAnyN_at (i := 7) (v := (.int .i64 q.e)) (some 4) rfl rfl (by kernel_rfl) (by kernel_rfl) (by kernel_rfl) (by kernel_rfl) (fun _ _ _ h => h) (Or.inl ⟨by rfl, ?_⟩) TF ?_
        · intro w hSw
          go_simp
          try (intro h; exfalso; omega)
        try simp only [Act.put, List.setIfInBounds_toArray, List.set_cons_zero, List.set_cons_succ]
        refine wpAnyL_done (by kernel_rfl) ?_ _
        refine NoPanic.normal ?_
        clear TF TS
        go_wp2_with fail
        rw [show ((((wd.setCell ⟨b, 0, none⟩ (.int .i64 0)).setCell ⟨b, 1, none⟩ (.string e0)).setCell ⟨b, 2, none⟩ (.int .i64 0)).setCell ⟨b, 3, none⟩ nl).setCell ⟨b, 4, none⟩ nl = wF from hwF.out]
        clear y0 y1 y2 y3 y4 v0 v1 v2 v3 v4
        have hF' := hF.out
        obtain ⟨⟨s0, s1, s2, s3, s4⟩, _⟩ := five_cells hF'
        exact bodyPost_ret (v := .tuple #[tr0v, .int .i64 (q.i : Int), .int .i64 q.e]) (by simp [results, Tryz.results8, go_sem, s0, s1, s2, s3, s4]) rfl (by rw [Hres2.out]; exact ⟨rfl, GF.out⟩)
end Go.Proofs.YtggkjkkbkpnkiaaGreatDoor

namespace Go.Proofs.YtggkjkkbkpnkiaaGreatDoor
open Go.RowKit Go.Maps
variable {x : Kx} {W W' : World} {p p' : Ps}
theorem exun_err2 (ts : List Tn) : ∀ m, Stuck (exun ts m).2
  | 0 => fun p h => failV_err h 161
  | m + 1 => unaryV_err
theorem rrules_ok : ∀ (m d : Nat), m + d = 41 → 1 ≤ m → ROk x 39 d (exun x.ts m).1 ∧ ROk x 74 d (exun x.ts m).2
  | 0, d, _, h => absurd h (by decide)
  | m + 1, d, hm, _ => by
    have hsub : d < 40 → ROk x 39 (d + 1) (exun x.ts m).1 ∧ ROk x 74 (d + 1) (exun x.ts m).2 := fun hd => rrules_ok m (d + 1) (by omega) (by omega)
    have hp := rprim_c d (exun x.ts m).1 (exun x.ts m).2 (fun h => (hsub h).1) (fun h => (hsub h).2) (exun_err m) (exun_err2 x.ts m)
    have hu := runary_c d (exun x.ts m).1 (exun x.ts m).2 hp (fun h => (hsub h).2)
    have h2 : COk x 2 d (joinV x.ts sgs2 (unaryV x.ts (exun x.ts m).1 (exun x.ts m).2) x.ts.length) := rchain_c 2 (by decide) d _ (rchain3_c d _ hu)
    have h1 : COk x 1 d (joinV x.ts sgs1 (joinV x.ts sgs2 (unaryV x.ts (exun x.ts m).1 (exun x.ts m).2) x.ts.length) x.ts.length) := rchain_c 1 (by decide) d _ h2
    have h0 : ROk x 51 d (joinedV x.ts (unaryV x.ts (exun x.ts m).1 (exun x.ts m).2)) := rcmp_c d _ h1
    have hst : Stuck (joinedV x.ts (unaryV x.ts (exun x.ts m).1 (exun x.ts m).2)) := joinV_err (joinV_err (joinV_err unaryV_err sgs2 x.ts.length) sgs1 x.ts.length) sgs0 1
    exact ⟨rexpr_c d (exun x.ts m).1 _ hst h0 (fun h => (hsub h).1), hu⟩
theorem rparse_c (x : Kx) (W : World) (h : Rz x W p00) : Calls Tryz.prog 8 #[.slice x.a x.ts.length x.c] W fun e w' => EndP W e w' (parseV x.ts) :=
  rparse_x (exun x.ts 41).1 h (fun W p hp hd => rfun_c 0 (exun x.ts 41).1 (rrules_ok 41 0 rfl (by decide)).1 (exun_err 41) hp hd) (progV x.ts (exun x.ts 41).1 p00) rfl (parseV x.ts) rfl
end Go.Proofs.YtggkjkkbkpnkiaaGreatDoor
