/-
  The walk of LexBack.
-/
import Derived.Test.YtnojhboflegkdaaDoorAB
import Derived.Test.YtnojhboflegkdaaDoorY
set_option linter.unusedVariables false
set_option linter.unusedSimpArgs false
namespace Go.Proofs.YtnojhboflegkdaaDoor
open Go.RowKit Go.Maps

theorem smV_at (t : Tok) (q : Nat) : smV t { t with at' := q } = true := by simp [smV]
theorem spl_take (l : List Tok) (k : Nat) (t : Tok) (h : l[k]? = some t) : spl (l.take (k + 1)) = (spl (l.take k) ++ sp t) ++ [32] := by
  have hk := (List.getElem?_eq_some_iff.1 h).1
  rw [List.take_add_one, h, spl_app]
  simp [spl]
theorem spl_take_len (l : List Tok) (k : Nat) (t : Tok) (h : l[k]? = some t) : (spl (l.take k)).length + (sp t).length + 1 ≤ (spl l).length := by
  have h1 := spl_take l k t h
  have h2 : spl l = spl (l.take (k + 1)) ++ spl (l.drop (k + 1)) := by rw [← spl_app, List.take_append_drop]
  rw [h2, h1]; simp; omega

set_option maxRecDepth 100000 in
set_option maxHeartbeats 8000000 in
theorem back_walk (s : ByteArray) (W : World) (hE : Er W) (hS : Sg W) (hT : Tb W) : Calls Tryd.prog 5 #[.string s] W fun e w' => e = .returned (.bool true) ∧ Gr (fun _ => False) W w' := by
  have ha := alive_c W hE hS hT
  have hp := fun s w (g : Gr (fun _ => False) W w) => scan_c w s (hE.gr g (fun e => e)) (hS.gr g (fun e => e))
  have hp1 := hp s
  cases hr : scanV s with
  | error x =>
    obtain ⟨j, c⟩ := x
    rw [hr] at hp1
    obtain ⟨e1, e2, e3⟩ := scanV_err hr
    have c1 : (c != 0) = true := by rw [bne_iff_ne]; omega
    clear hr e1 e2 e3 hE hS hT hp
    go_enter Tryd.func5, Tryd.ntmps5
    go_wp2_with fail
    refine ha.mono ?_
    rintro e w1 ⟨rfl, hg1⟩
    go_wp2_with fail
    refine (hp1 _ hg1).mono ?_
    rintro e w2 ⟨rfl, hg2⟩
    go_wp2_with fail
    go_ret
    exact ⟨by simp, hg1.trans hg2⟩
  | ok l =>
    rw [hr] at hp1
    obtain ⟨hq, hsum⟩ := scanV_q hr
    have hlen := scanV_len hr
    have hbk := back hr
    have hlI : (l.length : Int) ≤ 4000 := by omega
    have hsumI : ((spl l).length : Int) ≤ 344064 := by omega
    have hp2 := hp (sb (spl l))
    obtain ⟨u, hu⟩ : ∃ u, sb (spl l) = u := ⟨_, rfl⟩
    rw [hu] at hp2 hbk
    have Hu := Lib.hid hu
    have HT := Lib.hid hT
    replace hq := Lib.hid hq
    replace hbk := Lib.hid hbk
    replace hsum := Lib.hid hsum
    replace hp2 := Lib.hid hp2
    clear hr hE hS hT hlen hp hu
    go_enter Tryd.func5, Tryd.ntmps5
    go_wp2_with fail
    refine ha.mono ?_
    rintro e w1 ⟨rfl, hg1⟩
    go_wp2_with fail
    refine (hp1 _ hg1).mono ?_
    rintro e w2 ⟨sv, vs, rfl, hTk, hg2⟩
    obtain ⟨a, c, rfl⟩ := hTk.sv
    have hG := Lib.hid (hg1.trans hg2)
    replace hTk := Lib.hid hTk
    have o0 := Lib.hid (Ob.lit w2.heap.size w2 [] (by simp) (Nat.le_refl _) #[] rfl 0 rfl)
    have g0 : Hid (Gr (fun _ => False) w2 (w2.alloc (.cells #[] 5))) := Gr.alloc _ _ _
    clear hp1 ha hg1 hg2
    go_wp2_with fail
    go_loopw [6, 7] (fun b i wr => ∃ k : Nat, k ≤ l.length ∧ i = .int .i64 (k : Int) ∧ Hid (Ob w2.heap.size wr b (spl (l.take k))) ∧ Hid (Gr (fun _ => False) w2 wr)) (fun _ i _ => l.length - (intOf i).toNat)
    case atStart => exact ⟨0, Nat.zero_le _, rfl, (by show Ob _ _ _ _; simpa [spl] using o0.out), g0⟩
    case round =>
      obtain ⟨k, hk, rfl, Ho, hg⟩ := hrel
      clear o0 g0
      have hbw : w2.heap.size ≤ wr.heap.size := hg.out.size
      have ho := Ho.out
      by_cases hlt : k < l.length
      · have hkI : (k : Int) < (l.length : Int) := by omega
        obtain ⟨g, rfl, hgl, hcap, hrow⟩ := hTk.out.row (by omega)
        obtain ⟨t, ht⟩ : ∃ t, l[k]? = some t := ⟨_, List.getElem?_eq_getElem hlt⟩
        obtain ⟨ba, bc, hB, c0, c1, c2, c3, c4⟩ := (hrow k t ht).gr hg.out
        obtain ⟨q1, q2, q3, q4, q5, -⟩ := hq.out t (List.mem_of_getElem? ht)
        have hglw : g < wr.heap.size := by have := hg.out.size; omega
        have hsp := spell_c wr t.k t.s t.n (.slice ba t.b.length bc) t.at' t.b hB.sb q2 (by omega) (by omega) q3 (HT.out.gr (hG.out.trans hg.out) (fun e => e))
        have hst := Lib.hid (spl_take l k t ht)
        have hsl := Lib.hid (spl_take_len l k t ht)
        obtain ⟨r, hr⟩ : ∃ r, spV t.k t.s t.n t.b = r := ⟨_, rfl⟩
        have hrt : Hid (tb r = sp t) := by rw [← hr]; rfl
        have hrs : Hid (r.size = (sp t).length) := by rw [← hrt.out, tb_length]; rfl
        rw [hr] at hsp
        obtain ⟨L, hL⟩ : ∃ L, spl (l.take k) = L := ⟨_, rfl⟩
        rw [hL] at ho hst hsl
        have hLs : Hid (L.length + r.size + 1 ≤ 344064) := by have := hsl.out; have := hsum.out; have := hrs.out; show _ ≤ _; omega
        clear hr hL hrow ht hB q1 q2 q3 q4 q5 Ho hgl
        obtain ⟨oa, oc, rfl⟩ := ho.sv
        go_wp2_with fail
        refine hsp.mono ?_
        rintro e w4 ⟨rfl, g4⟩
        have o4 := ho.g0 g4
        have hb4 : w2.heap.size ≤ w4.heap.size := by have := g4.size; omega
        go_wp2_with (first
          | (at_builtin; refine wpList_aps rfl _ _ rfl w2.heap.size _ r L rfl rfl o4 (by have := hLs.out; omega) hb4 ?_; intro v5 w5 o5 g5; obtain ⟨M, hM⟩ : ∃ M, L ++ tb r = M := ⟨_, rfl⟩; rw [hM] at o5; have hMl : Hid (M.length + 1 ≤ 344064) := (by have := hLs.out; show _ ≤ _; rw [← hM, List.length_append, tb_length]; omega); replace hM := Lib.hid hM; obtain ⟨va, vc, rfl⟩ := o5.sv; have hb5 : w2.heap.size ≤ w5.heap.size := (by have := g5.gr.size; omega); replace o5 := Lib.hid o5; replace g5 := Lib.hid g5)
          | (at_builtin; refine wpList_ap rfl _ _ rfl w2.heap.size _ _ M [32] rfl rfl (o5.out.g0 (Gr.alloc _ _ _)) (Ob.lit 0 w5 [32] (by simp) (Nat.zero_le _) #[.int .u8 32] rfl 1 rfl).sb (by have := hMl.out; simp; omega) (by simp; omega) ?_; intro v6 w6 o6 g6; have gg := Lib.hid (Loc.pre (Gr.alloc w5 _ _) g6); replace o6 := Lib.hid o6; clear g6)
          | fail)
        have G6 : Gr (fun _ => False) w2 w6 := ((hg.out.trans g4).trans' (g5.out.far o4) (fun i hi h => by omega)).trans' (gg.out.far o5.out) (fun i hi h => by omega)
        exact ⟨⟨k + 1, by omega, by go_num, (by have := o6.out; rw [hst.out, ← hrt.out, hM.out]; exact this), G6⟩, by simp [intOf]; omega⟩
      · obtain rfl : k = l.length := by omega
        rw [List.take_length] at ho
        have hcv := conv_sb ho.sb
        rw [Hu.out] at hcv
        obtain ⟨oa, oc, rfl⟩ := ho.sv
        have hG4 := hG.out.trans hg.out
        by_cases hbig : 16384 < (spl l).length
        · have hbI : 16384 < ((spl l).length : Int) := by omega
          clear hbig
          go_wp2_with fail
          go_ret
          exact ⟨rfl, hG4⟩
        · have hbI : decide (16384 < ((spl l).length : Int)) = false := by simp; omega
          obtain ⟨m, hm, hk1, hk2⟩ := hbk.out (by omega)
          have hp3 := hp2.out wr hG4
          rw [hm] at hp3
          replace hk2 := Lib.hid hk2
          clear hbig hm
          go_wp2_with fail
          refine hp3.mono ?_
          rintro e w5 ⟨sm, vm, rfl, hTm, hg5⟩
          obtain ⟨ma, mc, rfl⟩ := hTm.sv
          rw [hk1] at hTm ⊢
          have G25 := Lib.hid (hg.out.trans hg5)
          have TL := Lib.hid (hTk.out.gr (hg.out.trans hg5) (fun _ _ e => e))
          have TM := Lib.hid hTm
          have G5 := Lib.hid (hG4.trans hg5)
          clear hp3 hTm hg5 hG4 hcv ho Ho hbI
          go_wp2_with fail
          go_loopw [11] (fun v wq => ∃ j : Nat, j ≤ l.length ∧ v = .int .i64 (j : Int) ∧ Hid (Gr (fun _ => False) w5 wq)) (fun v _ => l.length - (intOf v).toNat)
          case atStart => exact ⟨0, Nat.zero_le _, rfl, Gr.refl _ _⟩
          case round =>
            obtain ⟨j, hj, rfl, hgr⟩ := hrel
            by_cases hlt2 : j < l.length
            · have hjI : (j : Int) < (l.length : Int) := by omega
              obtain ⟨g, rfl, hgl, hcap, hrow⟩ := TL.out.row (by omega)
              have hTM' := TM.out
              rw [← hk1] at hTM'
              obtain ⟨h, rfl, hhl, hcap2, hrow2⟩ := hTM'.row (by omega)
              obtain ⟨t, ht⟩ : ∃ t, l[j]? = some t := ⟨_, List.getElem?_eq_getElem hlt2⟩
              obtain ⟨q, htm⟩ := hk2.out j t ht
              have gD := hgr.out.trans (Gr.drew wr _)
              have hsmv := smV_at t q
              generalize ({ t with at' := q } : Tok) = tm at htm hsmv
              obtain ⟨ba, bc, hB, x0, x1, x2, x3, x4⟩ := (hrow j t ht).gr gD
              obtain ⟨ca, cc, hC, y0, y1, y2, y3, y4⟩ := (hrow2 j tm htm).gr gD
              have s1 : S10 g (j * 5) h (j * 5) t tm (.slice ba t.b.length bc) (.slice ca tm.b.length cc) wr.drew := ⟨x0, x1, x2, x3, x4, y0, y1, y2, y3, y4⟩
              have hsm := fun w (g : Gr (fun _ => False) wr.drew w) => same_c w t tm _ _ (hB.sb.gr g) (hC.sb.gr g) t.at' tm.at'
              rw [hsmv] at hsm
              replace hsm := Lib.hid hsm
              have hglw : g < wr.heap.size := by have := hgr.out.size; omega
              have hhlw : h < wr.heap.size := by have := hgr.out.size; omega
              have hcap3 : l.length ≤ mc := by omega
              have GD := Lib.hid gD
              clear hrow hrow2 ht htm hB hC gD hgl hhl x0 x1 x2 x3 x4 y0 y1 y2 y3 y4 hTM' hsmv hcap2
              go_wp2_with fail
              go_region_held3 (S10 g (j * 5) h (j * 5) t tm (.slice ba t.b.length bc) (.slice ca tm.b.length cc)) (with_reducible assumption)
                (first
                  | (go_at_call 17; with_reducible refine (hsm.out _ (Gr.refl _ _)).mono ?_; rintro e w9 ⟨rfl, hg9⟩; have s2 := S10.gr s1 hg9; have G9 := Lib.hid hg9; clear hg9)
                  | fail)
              rename_i hHd
              clear s1 s2 hHd
              go_wp2_with fail
              exact ⟨⟨j + 1, by omega, by go_num, GD.out.trans G9.out⟩, by simp [intOf]; omega⟩
            · obtain rfl : j = l.length := by omega
              go_wp2_with fail
              go_ret
              exact ⟨rfl, G5.out.trans hgr.out⟩
end Go.Proofs.YtnojhboflegkdaaDoor
