/-
  Carried over from another seat of ours (JT).
  Carried over from another seat of ours (JV).
  has: does a name stand in a tree?
-/
import Derived.Test.YtjedbfbolifjjaaGreatDoorJP
import Derived.Test.YtjedbfbolifjjaaGreatDoorGQ
import Derived.Test.YtjedbfbolifjjaaGreatDoorMM
set_option linter.unusedVariables false
set_option linter.unusedSimpArgs false
namespace Go.Proofs.YtjedbfbolifjjaaGreatDoor
open Go.RowKit Go.Maps
variable {W W' : World}
end Go.Proofs.YtjedbfbolifjjaaGreatDoor

namespace Go.Proofs.YtjedbfbolifjjaaGreatDoor
open Go.RowKit Go.Maps
variable {W W' : World}
theorem rowg_at {base : Nat} {v : Value} {l : List Tr} {us : List Value} {A : Nat → Prop} (hr : W.ownsRow base 25 5 v l.length (us.flatMap cellsOf)) (hp : RepsG A W l us) (i : Nat) (k : Int) (s : ByteArray) (n : Int) (b : List Int) (q : List Tr) (hi : l[i]? = some (.mk k s n b q)) :
 ∃ g c, v = .slice (some ⟨g, 0, none⟩) l.length c ∧ g < W.heap.size ∧ W.cell? ⟨g, i * 5, none⟩ = some (.int .i64 k) ∧ W.cell? ⟨g, i * 5 + 1, none⟩ = some (.string s) := by
 have hlt : i < l.length := (List.getElem?_eq_some_iff.1 hi).1
 obtain ⟨g, c, rfl, hc⟩ := row_cells hr (by omega)
 obtain ⟨v', h1, h2⟩ := RepsG.at hp i _ hi
 obtain ⟨bv, lv, vs, rfl, _⟩ := h1
 have hadd : ∀ j, (⟨g, 0, none⟩ : Addr).add j = ⟨g, j, none⟩ := fun j => by unfold Addr.add; split <;> simp_all
 have x0 := hc _ _ (h2 0 _ rfl)
 have x1 := hc _ _ (h2 1 _ rfl)
 rw [hadd] at x0 x1
 exact ⟨g, c, rfl, World.block_lt_of_cell? _ _ x0, x0, x1⟩
set_option maxRecDepth 100000 in
set_option maxHeartbeats 4000000 in
theorem refnamesg_c (W : World) (T : Tr) (v : Value) (hR : RepG (fun k => k < W.heap.size) W T v) :
 Calls Tryz.prog 39 #[v] W fun e w' => ∃ v', e = .returned v' ∧ Ns W.heap.size w' v' (nms ((preL [T]).take 4000)) ∧ Gr (fun _ => False) W w' := by
 obtain ⟨tk, tt, tn, a1, n1, c1, a2, n2, c2, rfl⟩ := hR.agg
 have gB := Gr.alloc W (.cells #[.int .i64 tk, .string tt, .int .i64 tn, .slice a1 n1 c1, .slice a2 n2 c2] 25) (fun _ => False)
 have ha := fun w (g : Gr (fun _ => False) W w) => allg_c T w W.heap.size _ 4000 (hR.turn (A' := fun k => k < W.heap.size) (fun z hz hl => ⟨hz, g.block z hl (fun e => e)⟩)) g.size (by decide) (by decide)
 have hlen : ((preL [T]).take 4000).length ≤ 4000 := by rw [List.length_take]; omega
 generalize (preL [T]).take 4000 = o at ha hlen ⊢
 have hlenI : (o.length : Int) ≤ 4000 := by omega
 replace hlen := Lib.hid hlen
 replace ha := Lib.hid ha
 clear hR
 go_enter Tryz.func39, Tryz.ntmps39
 go_wp2_with fail
 generalize W.alloc _ = WB at gB ⊢
 refine (ha.out WB gB).mono ?_
 rintro e w1 ⟨v', us, rfl, hrow, hreps, g1⟩
 have G1 := gB.trans g1
 obtain ⟨oa, oc, rfl⟩ := ownsRow_sv hrow
 have hat := fun (w : World) (g : Gr (fun _ => False) w1 w) i k s n b q hi => rowg_at (W := w) (ownsRow_gr hrow g (fun _ _ e => e)) (hreps.turn (A' := fun k => k < W.heap.size) (fun z hz hl => ⟨hz, g.block z hl (fun e => e)⟩)) i k s n b q hi
 replace hat := Lib.hid hat
 go_wp2_with fail
 go_loopw [3, 5] (fun u3 u5 wr => ∃ i : Nat, i ≤ o.length ∧ u5 = .int .i64 (i : Int) ∧ Ns w1.heap.size wr u3 (nms (o.take i)) ∧ Gr (fun _ => False) w1 wr) (fun _ u5 _ => o.length - (intOf u5).toNat)
 case atStart => exact ⟨0, Nat.zero_le _, rfl, by rw [List.take_zero]; exact Ns.nil _ _ (Nat.le_refl _), Gr.refl _ _⟩
 case round =>
  obtain ⟨i, hi, rfl, hN, hG⟩ := hrel
  by_cases hlt : i < o.length
  ·
   have h1 : (i : Int) < (o.length : Int) := by omega
   have hTi : o[i]? = some o[i] := List.getElem?_eq_getElem hlt
   have htk : Hid (nms (o.take (i + 1)) = nms (o.take i) ++ nmOf o[i]) := by
    show _ = _
    rw [List.take_add_one, hTi, nms_app]
    simp [nms]
   have hnl : Hid ((nms (o.take i)).length < 40000) := by
    have := nms_len (o.take i)
    rw [List.length_take] at this
    have := hlen.out
    show _ < _
    omega
   generalize nms (o.take i) = ns at htk hnl hN
   generalize o[i] = U at hTi htk
   obtain ⟨k, s, n, b, q⟩ := U
   obtain ⟨g, c, e, hgl, x0, x1⟩ := hat.out wr hG i k s n b q hTi
   simp only [Value.slice.injEq, true_and] at e
   obtain ⟨rfl, rfl⟩ := e
   obtain ⟨na, nc, rfl⟩ := hN.sv
   by_cases h2 : k = 2
   ·
    have q2 : (k == 2) = true := by simpa using h2
    have hnm : nmOf (.mk k s n b q) = [s] := by simp [nmOf, isNm, h2]
    rw [hnm] at htk
    clear h2
    have hsz := hG.size
    go_wp2_with (first
     | (at_builtin; refine wpList_ns rfl _ _ rfl w1.heap.size _ ns wr.heap.size s rfl rfl (hN.g0 (Gr.alloc wr _ _)) (new_cell wr s) hnl.out ?_; intro v5 w5 hN5 g5; obtain ⟨a5, c5, rfl⟩ := hN5.sv)
     | fail)
    have G5 : Gr (fun _ => False) w1 w5 := (hG.trans (Gr.alloc wr (.cells #[.string s] 9) _)).trans' g5 (fun k hk e => by omega)
    have hl5 : (ns ++ [s]).length = ns.length + 1 := by simp
    have hN6 : Ns w1.heap.size w5 (.slice a5 (ns.length + 1) c5) (nms (o.take (i + 1))) := by rw [htk.out, ← hl5]; exact hN5
    exact ⟨⟨i + 1, hlt, by go_num, hN6, G5⟩, by simp [intOf]; omega⟩
   have q2 : (k == 2) = false := by simpa using h2
   by_cases h3 : k = 3
   ·
    have q3 : (k == 3) = true := by simpa using h3
    have hnm : nmOf (.mk k s n b q) = [s] := by simp [nmOf, isNm, h3]
    rw [hnm] at htk
    clear h3
    have hsz := hG.size
    go_wp2_with (first
     | (at_builtin; refine wpList_ns rfl _ _ rfl w1.heap.size _ ns wr.heap.size s rfl rfl (hN.g0 (Gr.alloc wr _ _)) (new_cell wr s) hnl.out ?_; intro v5 w5 hN5 g5; obtain ⟨a5, c5, rfl⟩ := hN5.sv)
     | fail)
    have G5 : Gr (fun _ => False) w1 w5 := (hG.trans (Gr.alloc wr (.cells #[.string s] 9) _)).trans' g5 (fun k hk e => by omega)
    have hl5 : (ns ++ [s]).length = ns.length + 1 := by simp
    have hN6 : Ns w1.heap.size w5 (.slice a5 (ns.length + 1) c5) (nms (o.take (i + 1))) := by rw [htk.out, ← hl5]; exact hN5
    exact ⟨⟨i + 1, hlt, by go_num, hN6, G5⟩, by simp [intOf]; omega⟩
   have q3 : (k == 3) = false := by simpa using h3
   by_cases h11 : k = 11
   ·
    have q11 : (k == 11) = true := by simpa using h11
    have hnm : nmOf (.mk k s n b q) = [s] := by simp [nmOf, isNm, h11]
    rw [hnm] at htk
    clear h11
    have hsz := hG.size
    go_wp2_with (first
     | (at_builtin; refine wpList_ns rfl _ _ rfl w1.heap.size _ ns wr.heap.size s rfl rfl (hN.g0 (Gr.alloc wr _ _)) (new_cell wr s) hnl.out ?_; intro v5 w5 hN5 g5; obtain ⟨a5, c5, rfl⟩ := hN5.sv)
     | fail)
    have G5 : Gr (fun _ => False) w1 w5 := (hG.trans (Gr.alloc wr (.cells #[.string s] 9) _)).trans' g5 (fun k hk e => by omega)
    have hl5 : (ns ++ [s]).length = ns.length + 1 := by simp
    have hN6 : Ns w1.heap.size w5 (.slice a5 (ns.length + 1) c5) (nms (o.take (i + 1))) := by rw [htk.out, ← hl5]; exact hN5
    exact ⟨⟨i + 1, hlt, by go_num, hN6, G5⟩, by simp [intOf]; omega⟩
   have q11 : (k == 11) = false := by simpa using h11
   by_cases h17 : k = 17
   ·
    have q17 : (k == 17) = true := by simpa using h17
    have hnm : nmOf (.mk k s n b q) = [s] := by simp [nmOf, isNm, h17]
    rw [hnm] at htk
    clear h17
    have hsz := hG.size
    go_wp2_with (first
     | (at_builtin; refine wpList_ns rfl _ _ rfl w1.heap.size _ ns wr.heap.size s rfl rfl (hN.g0 (Gr.alloc wr _ _)) (new_cell wr s) hnl.out ?_; intro v5 w5 hN5 g5; obtain ⟨a5, c5, rfl⟩ := hN5.sv)
     | fail)
    have G5 : Gr (fun _ => False) w1 w5 := (hG.trans (Gr.alloc wr (.cells #[.string s] 9) _)).trans' g5 (fun k hk e => by omega)
    have hl5 : (ns ++ [s]).length = ns.length + 1 := by simp
    have hN6 : Ns w1.heap.size w5 (.slice a5 (ns.length + 1) c5) (nms (o.take (i + 1))) := by rw [htk.out, ← hl5]; exact hN5
    exact ⟨⟨i + 1, hlt, by go_num, hN6, G5⟩, by simp [intOf]; omega⟩
   have q17 : (k == 17) = false := by simpa using h17
   have hnm : nmOf (.mk k s n b q) = [] := by simp [nmOf, isNm, h2, h3, h11, h17]
   rw [hnm, List.append_nil] at htk
   clear h2 h3 h11 h17
   go_wp2_with fail
   exact ⟨⟨i + 1, hlt, by go_num, by rw [htk.out]; exact hN, hG⟩, by simp [intOf]; omega⟩
  ·
   have h1 : decide ((i : Int) < (o.length : Int)) = false := by simp; omega
   obtain rfl : i = o.length := by omega
   rw [List.take_length] at hN
   obtain ⟨na, nc, rfl⟩ := hN.sv
   go_wp2_with fail
   go_ret
   exact ⟨_, rfl, ⟨hN.len, ownsRow_base hN.row G1.size, Nat.le_trans G1.size hN.bas⟩, G1.trans hG⟩
end Go.Proofs.YtjedbfbolifjjaaGreatDoor

namespace Go.Proofs.YtjedbfbolifjjaaGreatDoor
open Go.RowKit Go.Maps
variable {W W' : World}
set_option maxRecDepth 100000 in
set_option maxHeartbeats 4000000 in
theorem has22_c (W : World) (T : Tr) (v : Value) (s : ByteArray) (hR : RepG (fun k => k < W.heap.size) W T v) : Calls Tryz.prog 22 #[v, .string s] W fun e w' => e = .returned (.bool (inL (nms ((preL [T]).take 4000)) s)) ∧ Gr (fun _ => False) W w' := by
 obtain ⟨tk, tt, tn, a1, n1, c1, a2, n2, c2, rfl⟩ := hR.agg
 have gB := Gr.alloc W (.cells #[.int .i64 tk, .string tt, .int .i64 tn, .slice a1 n1 c1, .slice a2 n2 c2] 25) (fun _ => False)
 have hB := heap_alloc_new W (.cells #[.int .i64 tk, .string tt, .int .i64 tn, .slice a1 n1 c1, .slice a2 n2 c2] 25)
 have hn := fun w (g : Gr (fun _ => False) W w) => refnamesg_c w T _ (hR.turn (A' := fun k => k < w.heap.size) (fun z hz hl => ⟨Nat.lt_of_lt_of_le hl g.size, g.block z hl (fun e => e)⟩))
 have hlen : (nms ((preL [T]).take 4000)).length ≤ 4000 := by have := nms_len ((preL [T]).take 4000); rw [List.length_take] at this; omega
 generalize nms ((preL [T]).take 4000) = b at hn hlen ⊢
 obtain ⟨r, hr⟩ : ∃ r, r = (b.drop 0).any (fun x : ByteArray => x.toList == s.toList) := ⟨_, rfl⟩
 have e0 : inL b s = r := by
  rw [hr, List.drop_zero]
  unfold inL
  congr 1
  funext x
  rw [bs_eq]
 rw [e0]
 replace hr := Lib.hid hr
 replace hn := Lib.hid hn
 have hlI : (b.length : Int) ≤ 4000 := by omega
 clear e0 hR
 go_enter Tryz.func22, Tryz.ntmps22
 go_wp2_with fail
 generalize W.alloc _ = WB at gB hB ⊢
 obtain ⟨⟨m0, m1, m2, m3, m4⟩, _⟩ := five_cells hB
 have hbl := World.block_lt_of_cell? _ _ m0
 go_wp2_with fail
 refine (hn.out WB gB).mono ?_
 rintro e w1 ⟨v', rfl, hN, g1⟩
 have G1 := gB.trans g1
 have hk := hN.nr
 obtain ⟨a, c, rfl, hc, hk⟩ := hk
 replace hk := Lib.hid hk
 clear hN m0 m1 m2 m3 m4 hc
 go_wp2_with fail
 go_loopw [6] (fun u wr => ∃ i : Nat, i ≤ b.length ∧ u = .int .i64 (i : Int) ∧ Hid (r = (b.drop i).any (fun x : ByteArray => x.toList == s.toList)) ∧ wr = w1) (fun u _ => b.length - (intOf u).toNat)
 case atStart => exact ⟨0, Nat.zero_le _, rfl, hr, rfl⟩
 case round =>
  obtain ⟨i, hi, rfl, hR, rfl⟩ := hrel
  by_cases hlt : i < b.length
  ·
   have hd : decide ((i : Int) < (b.length : Int)) = true := by simp; omega
   have hTi : b[i]? = some b[i] := List.getElem?_eq_getElem hlt
   obtain ⟨g, rfl, hg, hcell⟩ := hk.out i _ hTi
   have hst := any_drop (fun x : ByteArray => x.toList == s.toList) hTi
   generalize b[i] = x at hcell hst
   have hR' : Hid (r = ((x.toList == s.toList) || (b.drop (i + 1)).any (fun x : ByteArray => x.toList == s.toList))) := hR.out.trans hst
   have hb := Lib.hid hi
   clear hTi hst hR
   cases e1 : (x.toList == s.toList) with
   | true =>
    have hrf : Hid (r = true) := by show _ = _; rw [hR'.out, e1]; rfl
    go_wp2_with fail
    go_ret
    exact ⟨by rw [hrf.out]; rfl, G1⟩
   | false =>
    have hrf : Hid (r = (b.drop (i + 1)).any (fun x : ByteArray => x.toList == s.toList)) := by show _ = _; rw [hR'.out, e1]; rfl
    go_wp2_with fail
    exact ⟨⟨i + 1, hlt, by go_num, hrf, by first | trivial | rfl⟩, by simp [intOf]; omega⟩
  ·
   have hd : decide ((i : Int) < (b.length : Int)) = false := by simp; omega
   have hie : i = b.length := by omega
   have hrf : Hid (r = false) := by
    show _ = _
    rw [hR.out, hie, List.drop_length]; rfl
   clear hie
   go_wp2_with fail
   go_ret
   exact ⟨by rw [hrf.out]; rfl, G1⟩
end Go.Proofs.YtjedbfbolifjjaaGreatDoor
