/-
  Carried over from another seat of ours (JT).
  A tree that came in.
  The walk of CheckTrees.
-/
import Derived.Test.YtjedbfbolifjjaaGreatDoorJP
import Derived.Test.YtjedbfbolifjjaaGreatDoorGQ
import Derived.Test.YtjedbfbolifjjaaGreatDoorJA
import Derived.Test.YtjedbfbolifjjaaGreatDoorR
import Derived.SizedLaws
import Derived.Carry
import Derived.Lib.SmallJoins
import Derived.Deep.Slices
import Derived.Deep.Strs
import Derived.Test.YtjedbfbolifjjaaGreatDoorPJ
import Derived.Test.YtjedbfbolifjjaaGreatDoorMI
set_option linter.unusedVariables false
set_option linter.unusedSimpArgs false
namespace Go.Proofs.YtjedbfbolifjjaaGreatDoor
open Go.RowKit Go.Maps
variable {W W' : World}
/-- What Deeper does: it answers. -/
def DpOkG (T : Tr) : Prop := ∀ (W : World) (N : Nat) (v : Value) (m : Int), RepG (fun k => k < N) W T v → N ≤ W.heap.size → 0 ≤ m → m ≤ 10000 → Calls Tryz.prog 25 #[v, .int .i64 m] W fun e w' => ∃ r, e = .returned (.bool r) ∧ Gr (fun _ => False) W w'
set_option maxRecDepth 100000 in
set_option maxHeartbeats 1600000 in
theorem dpg_node (k : Int) (s : ByteArray) (n : Int) (b : List Int) (l : List Tr) (hl : l.length ≤ 4611686018427387904) (ih : ∀ T ∈ l, DpOkG T) : DpOkG (.mk k s n b l) := by
 intro W N v m hRep hN hm0 hm1
 obtain ⟨ba, bc, la, lc, rfl, hk⟩ := hRep.parts
 have hlI : (l.length : Int) ≤ 4611686018427387904 := by omega
 by_cases hz : m ≤ 0
 · go_enter Tryz.func25, Tryz.ntmps25
   go_wp2_with fail
   go_ret
   exact ⟨true, rfl, Gr.alloc _ _ _⟩
 have hzD : decide (m ≤ 0) = false := by simpa using hz
 have gB := Gr.alloc W (.cells #[.int .i64 k, .string s, .int .i64 n, .slice ba b.length bc, .slice la l.length lc] 25) (fun _ => False)
 have hB := heap_alloc_new W (.cells #[.int .i64 k, .string s, .int .i64 n, .slice ba b.length bc, .slice la l.length lc] 25)
 replace hk := Lib.hid hk
 replace ih := Lib.hid ih
 replace hl := Lib.hid hl
 go_enter Tryz.func25, Tryz.ntmps25
 go_wp2_with fail
 generalize W.alloc _ = WB at gB hB ⊢
 obtain ⟨tb, htb⟩ : ∃ tb, W.heap.size = tb := ⟨_, rfl⟩
 rw [htb] at hB ⊢
 go_loopw [5] (fun u wr => ∃ i : Nat, i ≤ l.length ∧ u = .int .i64 (i : Int) ∧ wr.heap[tb]? = some (.cells #[.int .i64 k, .string s, .int .i64 n, .slice ba b.length bc, .slice la l.length lc] 25 (0, 0)) ∧ Gr (fun _ => False) W wr) (fun u _ => l.length - (intOf u).toNat)
 case atStart => exact ⟨0, Nat.zero_le _, rfl, hB, gB⟩
 case round =>
  obtain ⟨i, hi, rfl, hBr, hG⟩ := hrel
  obtain ⟨⟨m0, m1', m2, m3, m4⟩, _⟩ := five_cells hBr
  have htw : tb < wr.heap.size := (Array.getElem?_eq_some_iff.1 hBr).1
  by_cases hlt : i < l.length
  ·
   have h1 : (i : Int) < (l.length : Int) := by omega
   have hTi : l[i]? = some l[i] := List.getElem?_eq_getElem hlt
   obtain ⟨g, o, v', rfl, hgl, hgN, hRi, hci⟩ := hk.out i _ hTi
   have hAi := ih.out l[i] (List.getElem_mem hlt)
   generalize l[i] = U at hRi hAi
   obtain ⟨tk, tt, tn, a1, n1, c1, a2, n2, c2, rfl⟩ := hRi.agg
   have k0 : wr.cell? ⟨g, o + i * 5, none⟩ = some (.int .i64 tk) := cell_gr (hci 0 _ rfl) hG (fun e => e)
   have k1 := cell_gr (hci 1 _ rfl) hG (fun e => e)
   have k2 := cell_gr (hci 2 _ rfl) hG (fun e => e)
   have k3 := cell_gr (hci 3 _ rfl) hG (fun e => e)
   have k4 := cell_gr (hci 4 _ rfl) hG (fun e => e)
   have hRi' : RepG (fun z => z < N) wr U (trv tk tt tn (.slice a1 n1 c1) (.slice a2 n2 c2)) := hRi.turn (fun z hz hl => ⟨hz, hG.block z hl (fun e => e)⟩)
   have hsG := hG.size
   have hcall := hAi wr N _ (m - 1) hRi' (by omega) (by omega) (by omega)
   have hgw : g < wr.heap.size := by omega
   replace hcall := Lib.hid hcall
   clear hAi hRi hci hTi hRi'
   go_wp2_with fail
   refine hcall.out.mono ?_
   rintro e w4 ⟨r, rfl, g4⟩
   have hB4 := g4.keep hBr (fun e => e)
   cases r with
   | true =>
    go_wp2_with fail
    go_ret
    exact ⟨true, rfl, hG.trans g4⟩
   | false =>
    go_wp2_with fail
    exact ⟨⟨i + 1, hlt, by go_num, hB4, hG.trans g4⟩, by simp [intOf]; omega⟩
  · have h1 : decide ((i : Int) < (l.length : Int)) = false := by simp; omega
    go_wp2_with fail
    go_ret
    exact ⟨false, rfl, hG⟩
theorem dpg_c (T : Tr) : Szs [T] → DpOkG T :=
 Tr.rec (motive_1 := fun T => Szs [T] → DpOkG T) (motive_2 := fun l => Szs l → ∀ T ∈ l, DpOkG T)
  (fun k s n b l ih hs => by
    have h1 : l.length ≤ 4611686018427387904 := (hs (.mk k s n b l) (by rw [preL_cons]; simp)).2
    refine dpg_node k s n b l h1 (ih (fun U hU => hs U ?_))
    rw [preL_cons]
    simp [hU])
  (fun _ T h => by cases h)
  (fun T l h1 h2 hs U hU => by
    have e : preL (T :: l) = preL [T] ++ preL l := preL_app [T] l
    rcases List.mem_cons.1 hU with rfl | hU
    · exact h1 (fun V hV => hs V (by rw [e]; simp [hV]))
    · exact h2 (fun V hV => hs V (by rw [e]; simp [hV])) U hU) T
set_option maxRecDepth 100000 in
set_option maxHeartbeats 1600000 in
theorem largeg_c (W : World) (T : Tr) (v : Value) (hR : RepG (fun k => k < W.heap.size) W T v) (hs : Szs [T]) : Calls Tryz.prog 10 #[v] W fun e w' => ∃ r, e = .returned (.bool r) ∧ Gr (fun _ => False) W w' := by
 obtain ⟨tk, tt, tn, a1, n1, c1, a2, n2, c2, rfl⟩ := hR.agg
 have gB := Gr.alloc W (.cells #[.int .i64 tk, .string tt, .int .i64 tn, .slice a1 n1 c1, .slice a2 n2 c2] 25) (fun _ => False)
 have hB := heap_alloc_new W (.cells #[.int .i64 tk, .string tt, .int .i64 tn, .slice a1 n1 c1, .slice a2 n2 c2] 25)
 have hRx : ∀ w, Gr (fun _ => False) W w → RepG (fun k => k < W.heap.size) w T (trv tk tt tn (.slice a1 n1 c1) (.slice a2 n2 c2)) := fun w g => hR.turn (fun z hz hl => ⟨hz, g.block z hl (fun e => e)⟩)
 have hd := fun w (g : Gr (fun _ => False) W w) => dpg_c T hs w W.heap.size _ 10000 (hRx w g) g.size (by decide) (by decide)
 have ha := fun w (g : Gr (fun _ => False) W w) => allg_c T w W.heap.size _ 30000 (hRx w g) g.size (by decide) (by decide)
 replace hd := Lib.hid hd
 replace ha := Lib.hid ha
 clear hRx hR
 go_enter Tryz.func10, Tryz.ntmps10
 go_wp2_with fail
 generalize W.alloc _ = WB at gB hB ⊢
 obtain ⟨tb, htb⟩ : ∃ tb, W.heap.size = tb := ⟨_, rfl⟩
 rw [htb] at hB ⊢
 refine (hd.out WB gB).mono ?_
 rintro e w1 ⟨r, rfl, g1⟩
 have G1 := gB.trans g1
 obtain ⟨⟨m0, m1, m2, m3, m4⟩, _⟩ := five_cells (g1.keep hB (fun e => e))
 cases r with
 | true =>
  go_wp2_with fail
  go_ret
  exact ⟨true, rfl, G1⟩
 | false =>
  go_wp2_with fail
  refine (ha.out w1 G1).mono ?_
  rintro e w2 ⟨v', us, rfl, hrow, hreps, g2⟩
  obtain ⟨sa, sc, rfl⟩ := ownsRow_sv hrow
  go_wp2_with fail
  go_ret
  exact ⟨_, rfl, G1.trans g2⟩
end Go.Proofs.YtjedbfbolifjjaaGreatDoor

namespace Go.Proofs.YtjedbfbolifjjaaGreatDoor
open Go.ChangeShapes Go.WideShapes Go.ChangeAt Go.RowKit Go.Maps Go.ChangeMaps Go.Joins Go.Deep
theorem cells5 : Tryz.prog.cellsOf 5 = 1 := by kernel_rfl
theorem cells25 : Tryz.prog.cellsOf 25 = 5 := by kernel_rfl
theorem cells3 : Tryz.prog.cellsOf 3 = 1 := by kernel_rfl
theorem cells2 : Tryz.prog.cellsOf 2 = 1 := by kernel_rfl
theorem cells9 : Tryz.prog.cellsOf 9 = 1 := by kernel_rfl
theorem cells22 : Tryz.prog.cellsOf 22 = 1 := by kernel_rfl
theorem cells23 : Tryz.prog.cellsOf 23 = 1 := by kernel_rfl
theorem bytes25 : Tryz.prog.bytesOf 25 = 80 := by kernel_rfl
theorem weights_all {H : Type} {P : Program} {e : TypeId} : ∀ {ds : List (DataW H)} {d : DataW H}, d ∈ ds → ∀ n ∈ d.weights P e, n ∈ DataW.weightsAll P e ds
 | d0 :: ds, d, hd, n, hn => by
  simp only [DataW.weightsAll, List.mem_append]
  rcases List.mem_cons.1 hd with rfl | hd
  · exact .inl hn
  · exact .inr (weights_all hd n hn)
section
variable {H : Type} {enc : TypeId × Value → H} {W : World}
theorem open_bs {fuel : Nat} {v : Value} {x : DataW H × List MemPlace} (hf : DataW.trod enc Tryz.prog W 0 (fun _ => true) true fuel 22 [v] = some x) : ∃ l, RowBG (fun k => k < W.heap.size) W l v := by
 rcases open_ints Tryz.underlying22 Tryz.underlying5 cells5 hf with ⟨hcs, hx⟩ | ⟨a, len, cap, zs, hcs, _, hl, hm, hz, hx, hcell, hwz⟩
 · simp at hcs
   subst hcs
   exact ⟨[], .inl ⟨rfl, _, _, rfl⟩⟩
 ·
  simp at hcs
  subst hcs
  simp only [if_true] at hz
  have hln : (zs.take len).length = len := by simp; omega
  by_cases h0 : len = 0
  · subst h0
    exact ⟨[], .inl ⟨rfl, _, _, rfl⟩⟩
  ·
   have hc0 := hcell 0 (by omega)
   obtain ⟨g, o, spot⟩ := a
   have hspot : spot = none := by simpa [Addr.add] using World.cell?_spot hc0
   subst hspot
   have hadd : ∀ j, (⟨g, o, none⟩ : Addr).add j = ⟨g, o + j, none⟩ := fun j => by unfold Addr.add; split <;> simp_all
   refine ⟨zs.take len, .inr ⟨g, o, cap, by rw [hln], World.block_lt_of_cell? _ _ hc0, fun j u hu => ?_⟩⟩
   have hj : j < len := by have := (List.getElem?_eq_some_iff.1 hu).1; simp only [List.length_map, hln] at this; exact this
   rw [← hadd, hcell j (by omega)]
   rw [← hu]
   simp [List.getD_eq_getElem?_getD, List.getElem?_take_of_lt hj, List.getElem?_eq_getElem (show j < zs.length by omega)]
theorem szs_nil : Szs [] := fun U hU => by rw [preL_nil] at hU; cases hU
/-- The first m trees of a row. -/
theorem open_trees (a : Addr) (len n : Nat) (D : Nat → DataW H × List MemPlace)
 (ih : ∀ (cs : List Value) (x : DataW H × List MemPlace), DataW.trod enc Tryz.prog W 0 (fun _ => true) true n 25 cs = some x → (∀ k ∈ x.1.weights Tryz.prog 25, k ≤ reachBytes) → ∃ T, RepG (fun k => k < W.heap.size) W T (.agg cs.toArray) ∧ Szs [T])
 (hel : ∀ i, i < len → ∃ cs', W.cells? 0 (a.add (i * 5)) 5 = some cs' ∧ DataW.trod enc Tryz.prog W 0 (fun _ => true) true n 25 cs' = some (D i))
 (hw : ∀ i, i < len → ∀ k ∈ (D i).1.weights Tryz.prog 25, k ≤ reachBytes) :
 ∀ m, m ≤ len → ∃ Ts vs, Ts.length = m ∧ RepsG (fun k => k < W.heap.size) W Ts vs ∧ Szs Ts ∧ ∀ j u, (vs.flatMap cellsOf)[j]? = some u → W.cell? (a.add j) = some u
 | 0, _ => ⟨[], [], rfl, rfl, szs_nil, fun j u h => by simp at h⟩
 | m + 1, hm => by
  obtain ⟨Ts, vs, h1, h2, h3, h4⟩ := open_trees a len n D ih hel hw m (by omega)
  obtain ⟨cs', hc, ht⟩ := hel m (by omega)
  obtain ⟨T, hT, hsz⟩ := ih cs' (D m) ht (hw m (by omega))
  obtain ⟨_, hlen', hcell⟩ := World.cells?_some hc
  refine ⟨Ts ++ [T], vs ++ [.agg cs'.toArray], by simp [h1], RepsG.app (W := W) (show RepsG _ W [T] [.agg cs'.toArray] from ⟨_, [], rfl, hT, rfl⟩) h2, fun U hU => ?_, fun j u hu => ?_⟩
  · rw [preL_app] at hU
    rcases List.mem_append.1 hU with hU | hU
    · exact h3 U hU
    · exact hsz U hU
  ·
   rw [List.flatMap_append] at hu
   have hcl := RepsG.cells (W := W) h2
   rw [h1] at hcl
   by_cases hj : j < (vs.flatMap cellsOf).length
   · rw [List.getElem?_append_left hj] at hu
     exact h4 j u hu
   ·
    rw [List.getElem?_append_right (by omega), hcl] at hu
    have hu' : cs'[j - m * 5]? = some u := by simpa [cellsOf] using hu
    have hlt : j - m * 5 < 5 := by have := (List.getElem?_eq_some_iff.1 hu').1; omega
    have := hcell (j - m * 5) hlt
    rw [add_add] at this
    rw [show m * 5 + (j - m * 5) = j by omega] at this
    rw [this]
    exact hu'
set_option maxRecDepth 100000 in
set_option maxHeartbeats 1600000 in
theorem open_tree : ∀ (fuel : Nat) (cs : List Value) (x : DataW H × List MemPlace), DataW.trod enc Tryz.prog W 0 (fun _ => true) true fuel 25 cs = some x → (∀ k ∈ x.1.weights Tryz.prog 25, k ≤ reachBytes) → ∃ T, RepG (fun k => k < W.heap.size) W T (.agg cs.toArray) ∧ Szs [T] := by
 intro fuel
 induction fuel using Nat.strongRecOn with
 | ind fuel IH =>
  intro cs x hf hz
  obtain ⟨xs, m, hfm, hx, hl, hlen, hf⟩ := DataW.trod_struct Tryz.underlying25 hf
  rw [cells25] at hl
  match cs, hl, xs, hlen with
  | [c0, c1, c2, c3, c4], _, [y0, y1, y2, y3, y4], _ =>
   have g0 := hf 0 _ rfl
   have g1 := hf 1 _ rfl
   have g2 := hf 2 _ rfl
   have g3 := hf 3 _ rfl
   have g4 := hf 4 _ rfl
   simp [cells3, cells2, cells9, cells22, cells23] at g0 g1 g2 g3 g4
   obtain ⟨i0, e0, _, w0⟩ := DataW.trod_int Tryz.underlying3 g0
   obtain ⟨s, e1, x1, w1⟩ := DataW.trod_string Tryz.underlying9 g1
   obtain ⟨i2, e2, _, w2⟩ := DataW.trod_int Tryz.underlying2 g2
   obtain ⟨bs, hbs⟩ := open_bs g3
   have hd : x.1 = .agg [y0.1, y1.1, y2.1, y3.1, y4.1] := by have := congrArg Prod.fst hx; simpa using this
   have hwt : (DataW.agg [y0.1, y1.1, y2.1, y3.1, y4.1] : DataW H).weights Tryz.prog 25 = DataW.weightsEach Tryz.prog [3, 9, 2, 22, 23] [y0.1, y1.1, y2.1, y3.1, y4.1] := by simp [DataW.weights, Tryz.underlying25]
   rw [hd, hwt] at hz
   have hss : s.size ≤ reachBytes := by
    apply hz
    refine DataW.weights_mem_each (j := 1) (t := 9) rfl rfl _ ?_
    subst x1
    simp [DataW.weights]
   have h4 : ∀ k ∈ y4.1.weights Tryz.prog 23, k ≤ reachBytes := fun k hk => hz k (DataW.weights_mem_each (j := 4) (t := 23) rfl rfl _ hk)
   have hr := reachBytes_lt
   have hrow : ∃ Ts vs, RowTG (fun k => k < W.heap.size) W vs Ts.length c4 ∧ RepsG (fun k => k < W.heap.size) W Ts vs ∧ Szs Ts ∧ Ts.length ≤ 4611686018427387904 := by
    rcases DataW.trod_slice Tryz.underlying23 g4 with ⟨hcs, hx4⟩ | ⟨a, len, cap, elems, rest, n, hn, hcs, hx4, _, hlc, hmx, hel, hget, _, _⟩
    · simp at hcs
      subst hcs
      exact ⟨[], [], .inl ⟨rfl, _, _, rfl⟩, rfl, szs_nil, Nat.zero_le _⟩
    ·
     simp at hcs
     subst hcs
     rw [hx4] at h4
     have hbytes : (elems.length + rest.length) * 80 ≤ reachBytes := by
      rw [← bytes25]
      apply h4
      simp [DataW.weights, Tryz.underlying23]
     rw [cells25] at hget
     have hel' : ∀ i, i < len → ∃ cs', W.cells? 0 (a.add (i * 5)) 5 = some cs' ∧ DataW.trod enc Tryz.prog W 0 (fun _ => true) true n 25 cs' = some (elems[i]?.getD y0) := by
      intro i hi
      have := hget i hi
      rw [List.getElem?_eq_getElem (by omega)] at this
      obtain ⟨cs', h1, h2⟩ := Option.bind_eq_some_iff.1 this
      exact ⟨cs', h1, by rw [h2, List.getElem?_eq_getElem (by omega)]; rfl⟩
     have hw' : ∀ i, i < len → ∀ k ∈ (elems[i]?.getD y0).1.weights Tryz.prog 25, k ≤ reachBytes := by
      intro i hi k hk
      rw [List.getElem?_eq_getElem (by omega)] at hk
      apply h4
      have : k ∈ DataW.weightsAll Tryz.prog 25 (elems.map (·.1)) := weights_all (List.mem_map_of_mem (List.getElem_mem (by omega))) k hk
      simp [DataW.weights, Tryz.underlying23, this]
     obtain ⟨Ts, vs, t1, t2, t3, t4⟩ := open_trees a len n (fun i => elems[i]?.getD y0) (fun cs x => IH n (by omega) cs x) hel' hw' len (Nat.le_refl _)
     refine ⟨Ts, vs, ?_, t2, t3, by omega⟩
     by_cases h0 : len = 0
     · exact .inl ⟨by omega, _, _, by rw [h0]⟩
     · have hcl := RepsG.cells (W := W) t2
       have hc0 := t4 0 _ (List.getElem?_eq_getElem (by omega))
       obtain ⟨g, o, spot⟩ := a
       have hspot : spot = none := by simpa [Addr.add] using World.cell?_spot hc0
       subst hspot
       have hadd : ∀ j, (⟨g, o, none⟩ : Addr).add j = ⟨g, o + j, none⟩ := fun j => by unfold Addr.add; split <;> simp_all
       exact .inr ⟨g, o, cap, by rw [t1], World.block_lt_of_cell? _ _ hc0, by omega, fun j u hu => by rw [← hadd]; exact t4 j u hu⟩
   obtain ⟨Ts, vs, r1, r2, r3, r4⟩ := hrow
   simp only [List.cons.injEq, and_true] at e0 e1 e2
   subst e0 e1 e2
   refine ⟨.mk i0 s i2 bs Ts, ⟨c3, c4, vs, rfl, hbs, r1, r2⟩, fun U hU => ?_⟩
   rw [preL_cons, preL_nil, List.append_nil] at hU
   rcases List.mem_cons.1 hU with rfl | hU
   · exact ⟨by unfold reachBytes at hss; omega, r4⟩
   · exact r3 U hU
end
end Go.Proofs.YtjedbfbolifjjaaGreatDoor

namespace Go.Proofs.YtjedbfbolifjjaaGreatDoor
open Go.RowKit Go.Maps
variable {W W' : World}
def SomeB (W : World) (e : Ending) (w' : World) : Prop := ∃ r, e = .returned (.bool r) ∧ Gr (fun _ => False) W w'
set_option maxRecDepth 100000 in
set_option maxHeartbeats 1600000 in
theorem trees_c (W : World) (T : Tr) (v : Value) (hR : RepG (fun k => k < W.heap.size) W T v) (hs : Szs [T]) (hE : Er W) (hS : Sg W) (hL : Lv W) (hB : Bu W) : Calls Tryz.prog 3 #[v] W fun e w' => e = .returned (.bool true) ∧ Gr (fun _ => False) W w' := by
 obtain ⟨tk, tt, tn, a1, n1, c1, a2, n2, c2, rfl⟩ := hR.agg
 have gB := Gr.alloc W (.cells #[.int .i64 tk, .string tt, .int .i64 tn, .slice a1 n1 c1, .slice a2 n2 c2] 25) (fun _ => False)
 have hB0 := heap_alloc_new W (.cells #[.int .i64 tk, .string tt, .int .i64 tn, .slice a1 n1 c1, .slice a2 n2 c2] 25)
 have hal := alive_c _ (hE.gr gB (fun e => e)) (hS.gr gB (fun e => e)) (hL.gr gB (fun e => e) (fun e => e)) (Bu.gr hB gB (fun e => e))
 go_enter Tryz.func3, Tryz.ntmps3
 go_wp2_with fail
 generalize W.alloc _ = WB at gB hB0 hal ⊢
 obtain ⟨tb, htb⟩ : ∃ tb, W.heap.size = tb := ⟨_, rfl⟩
 rw [htb] at hB0 ⊢
 refine hal.mono ?_
 rintro e w1 ⟨rfl, g1⟩
 have G1 := gB.trans g1
 have Gd : Gr (fun _ => False) w1 w1.drew := Gr.drew _ _
 have hRx : ∀ w, Gr (fun _ => False) w1 w → RepG (fun k => k < w.heap.size) w T (trv tk tt tn (.slice a1 n1 c1) (.slice a2 n2 c2)) := fun w g => hR.turn (fun z hz hl => ⟨Nat.lt_of_lt_of_le hz (G1.trans g).size, (G1.trans g).block z hl (fun e => e)⟩)
 have hlg : Hid (Calls Tryz.prog 10 #[trv tk tt tn (.slice a1 n1 c1) (.slice a2 n2 c2)] w1.drew fun e w' => SomeB w1.drew e w') := largeg_c w1.drew T _ (hRx _ Gd) hs
 have hck : Hid (∀ w, Gr (fun _ => False) w1 w → Calls Tryz.prog 11 #[trv tk tt tn (.slice a1 n1 c1) (.slice a2 n2 c2)] w fun e w' => e = .returned (.int .i64 (chkV T)) ∧ Gr (fun _ => False) w w') := fun w g => check_c w T _ (hRx w g) hs (Bu.gr hB (G1.trans g) (fun e => e))
 have hrf : Hid (∀ w, Gr (fun _ => False) w1 w → Calls Tryz.prog 12 #[trv tk tt tn (.slice a1 n1 c1) (.slice a2 n2 c2)] w fun e w' => e = .returned (.int .i64 (chkV T)) ∧ Gr (fun _ => False) w w') := fun w g => by
  have := rcheck_c w T _ (hRx w g) hs
  rw [refV_chk] at this
  exact this
 generalize chkV T = c at hck hrf
 have hG0 : Hid (∀ w, Gr (fun _ => False) w1 w → Gr (fun _ => False) W w) := fun w g => G1.trans g
 obtain ⟨⟨m0, m1, m2, m3, m4⟩, _⟩ := five_cells ((g1.trans Gd).keep hB0 (fun e => e))
 clear hRx hR hal hE hS hL hB hB0 gB g1 G1
 go_wp2_with fail
 have TS : Gr (fun _ => False) w1.drew w1.drew := Gr.refl _ _
 refine wp_region_L (L := 100) (T := fun w => Gr (fun _ => False) w1.drew w) (by kernel_rfl) ?_
 refine wpAnyN_at (i := 0) (v := trv tk tt tn (.slice a1 n1 c1) (.slice a2 n2 c2)) (some 5) rfl rfl (by kernel_rfl) (by kernel_rfl) (by kernel_rfl) (by kernel_rfl) (fun _ _ _ h => h) (Or.inl ⟨by rfl, ?_⟩) TS ?_
 ·
  intro w hSw
  have q0 := cell_gr m0 hSw (fun e => e)
  have q1 := cell_gr m1 hSw (fun e => e)
  have q2 := cell_gr m2 hSw (fun e => e)
  have q3 := cell_gr m3 hSw (fun e => e)
  have q4 := cell_gr m4 hSw (fun e => e)
  have qz := World.block_lt_of_cell? _ _ q0
  go_simp
  try (intro h; exfalso; omega)
 try simp only [Act.put, sa1, sa2, sa3]
 refine wpAnyL_one (i := 1) (by kernel_rfl) rfl (fun K hK => ?_)
 go_simp
 refine hlg.out.mono ?_
 rintro e w2 ⟨r, rfl, g2⟩
 cases r with
 | true =>
  have TS : Gr (fun _ => False) w1.drew w2 := TS.trans g2
  refine hK.out _ _ (fun _ => TS) ?_
  clear hK K
  try simp only [Act.put, sa1, sa2, sa3]
  refine wpAnyN_at (i := 2) (v := .bool true) (some 7) rfl rfl (by kernel_rfl) (by kernel_rfl) (by kernel_rfl) (by kernel_rfl) (fun _ _ _ h => h) (Or.inl ⟨by rfl, ?_⟩) TS ?_
  · intro w hSw
    go_simp
    try (intro h; exfalso; omega)
  try simp only [Act.put, sa1, sa2, sa3]
  refine wpAnyN_at (i := 3) (v := undef) (some 8) rfl rfl (by kernel_rfl) (by kernel_rfl) (by kernel_rfl) (by kernel_rfl) (fun _ _ _ h => h) (Or.inr ⟨by rfl, rfl⟩) TS ?_
  try simp only [Act.put, sa1, sa2, sa3]
  refine wpAnyN_at (i := 4) (v := undef) (some 9) rfl rfl (by kernel_rfl) (by kernel_rfl) (by kernel_rfl) (by kernel_rfl) (fun _ _ _ h => h) (Or.inr ⟨by rfl, rfl⟩) TS ?_
  try simp only [Act.put, sa1, sa2, sa3]
  refine wpAnyN_at (i := 5) (v := undef) (some 10) rfl rfl (by kernel_rfl) (by kernel_rfl) (by kernel_rfl) (by kernel_rfl) (fun _ _ _ h => h) (Or.inr ⟨by rfl, rfl⟩) TS ?_
  try simp only [Act.put, sa1, sa2, sa3]
  refine wpAnyN_at (i := 6) (v := undef) (some 11) rfl rfl (by kernel_rfl) (by kernel_rfl) (by kernel_rfl) (by kernel_rfl) (fun _ _ _ h => h) (Or.inr ⟨by rfl, rfl⟩) TS ?_
  try simp only [Act.put, sa1, sa2, sa3]
  refine wpAnyN_at (i := 7) (v := undef) (some 12) rfl rfl (by kernel_rfl) (by kernel_rfl) (by kernel_rfl) (by kernel_rfl) (fun _ _ _ h => h) (Or.inr ⟨by rfl, rfl⟩) TS ?_
  try simp only [Act.put, sa1, sa2, sa3]
  refine wpAnyN_at (i := 8) (v := .bool true) (some 13) rfl rfl (by kernel_rfl) (by kernel_rfl) (by kernel_rfl) (by kernel_rfl) (fun _ _ _ h => h) (Or.inl ⟨by rfl, ?_⟩) TS ?_
  · intro w hSw
    go_simp
    try (intro h; exfalso; omega)
  try simp only [Act.put, sa1, sa2, sa3]
  refine wpAnyN_at (i := 9) (v := .bool true) (some 2) rfl rfl (by kernel_rfl) (by kernel_rfl) (by kernel_rfl) (by kernel_rfl) (fun _ _ _ h => h) (Or.inl ⟨by rfl, ?_⟩) TS ?_
  · intro w hSw
    go_simp
    try (intro h; exfalso; omega)
  try simp only [Act.put, sa1, sa2, sa3]
  refine wpAnyL_done (by kernel_rfl) ?_ _
  refine NoPanic.normal ?_
  have hGx := Lib.hid (hG0.out _ (Gd.trans TS))
  clear TS
  go_wp2_with fail
  go_ret
  exact ⟨rfl, hGx.out⟩
 | false =>
  have TS : Gr (fun _ => False) w1.drew w2 := TS.trans g2
  refine hK.out _ _ (fun _ => TS) ?_
  clear hK K
  try simp only [Act.put, sa1, sa2, sa3]
  refine wpAnyN_at (i := 2) (v := .bool false) (some 7) rfl rfl (by kernel_rfl) (by kernel_rfl) (by kernel_rfl) (by kernel_rfl) (fun _ _ _ h => h) (Or.inl ⟨by rfl, ?_⟩) TS ?_
  · intro w hSw
    go_simp
    try (intro h; exfalso; omega)
  try simp only [Act.put, sa1, sa2, sa3]
  refine wpAnyN_at (i := 3) (v := trv tk tt tn (.slice a1 n1 c1) (.slice a2 n2 c2)) (some 8) rfl rfl (by kernel_rfl) (by kernel_rfl) (by kernel_rfl) (by kernel_rfl) (fun _ _ _ h => h) (Or.inl ⟨by rfl, ?_⟩) TS ?_
  ·
   intro w hSw
   have q0 := cell_gr m0 hSw (fun e => e)
   have q1 := cell_gr m1 hSw (fun e => e)
   have q2 := cell_gr m2 hSw (fun e => e)
   have q3 := cell_gr m3 hSw (fun e => e)
   have q4 := cell_gr m4 hSw (fun e => e)
   have qz := World.block_lt_of_cell? _ _ q0
   go_simp
   try (intro h; exfalso; omega)
  try simp only [Act.put, sa1, sa2, sa3]
  refine wpAnyN_at (i := 5) (v := trv tk tt tn (.slice a1 n1 c1) (.slice a2 n2 c2)) (some 10) rfl rfl (by kernel_rfl) (by kernel_rfl) (by kernel_rfl) (by kernel_rfl) (fun _ _ _ h => h) (Or.inl ⟨by rfl, ?_⟩) TS ?_
  ·
   intro w hSw
   have q0 := cell_gr m0 hSw (fun e => e)
   have q1 := cell_gr m1 hSw (fun e => e)
   have q2 := cell_gr m2 hSw (fun e => e)
   have q3 := cell_gr m3 hSw (fun e => e)
   have q4 := cell_gr m4 hSw (fun e => e)
   have qz := World.block_lt_of_cell? _ _ q0
   go_simp
   try (intro h; exfalso; omega)
  try simp only [Act.put, sa1, sa2, sa3]
  refine wpAnyL_one (i := 4) (by kernel_rfl) rfl (fun K hK => ?_)
  go_simp
  refine (hck.out _ (Gd.trans TS)).mono ?_
  rintro e wA ⟨rfl, gA⟩
  have TS : Gr (fun _ => False) w1.drew wA := TS.trans gA
  refine hK.out _ _ (fun _ => TS) ?_
  clear hK K
  try simp only [Act.put, sa1, sa2, sa3]
  refine wpAnyL_one (i := 6) (by kernel_rfl) rfl (fun K hK => ?_)
  go_simp
  refine (hrf.out _ (Gd.trans TS)).mono ?_
  rintro e wB ⟨rfl, gB⟩
  have TS : Gr (fun _ => False) w1.drew wB := TS.trans gB
  refine hK.out _ _ (fun _ => TS) ?_
  clear hK K
  try simp only [Act.put, sa1, sa2, sa3]
  refine wpAnyN_at (i := 7) (v := .bool true) (some 12) rfl rfl (by kernel_rfl) (by kernel_rfl) (by kernel_rfl) (by kernel_rfl) (fun _ _ _ h => h) (Or.inl ⟨by rfl, ?_⟩) TS ?_
  · intro w hSw
    go_simp
    try (intro h; exfalso; omega)
  try simp only [Act.put, sa1, sa2, sa3]
  refine wpAnyN_at (i := 8) (v := .bool true) (some 13) rfl rfl (by kernel_rfl) (by kernel_rfl) (by kernel_rfl) (by kernel_rfl) (fun _ _ _ h => h) (Or.inl ⟨by rfl, ?_⟩) TS ?_
  · intro w hSw
    go_simp
    try (intro h; exfalso; omega)
  try simp only [Act.put, sa1, sa2, sa3]
  refine wpAnyN_at (i := 9) (v := .bool true) (some 2) rfl rfl (by kernel_rfl) (by kernel_rfl) (by kernel_rfl) (by kernel_rfl) (fun _ _ _ h => h) (Or.inl ⟨by rfl, ?_⟩) TS ?_
  · intro w hSw
    go_simp
    try (intro h; exfalso; omega)
  try simp only [Act.put, sa1, sa2, sa3]
  refine wpAnyL_done (by kernel_rfl) ?_ _
  refine NoPanic.normal ?_
  have hGx := Lib.hid (hG0.out _ (Gd.trans TS))
  clear TS
  go_wp2_with fail
  go_ret
  exact ⟨rfl, hGx.out⟩
end Go.Proofs.YtjedbfbolifjjaaGreatDoor
