/-
  Carried over from another seat of ours (QJ).
-/
import Derived.Test.YtfamepdghememaaQI
set_option linter.unusedVariables false
set_option linter.unusedSimpArgs false
namespace Go.Proofs.Ytfamepdghememaa
open Go.RowKit Go.Maps Go.WideMaps
attribute [local go_sem] Oper.semAt_some
variable {S S' : Nat → Prop} {W W1 W' : World}
theorem gath_cons_in {s : ByteArray} {ns l r : List ByteArray} (h : gath (s :: ns) l r) (hs : s ∈ l) : gath ns l r := by
  rcases h with h | h
  · exact h.2
  · exact absurd hs h.1
theorem gath_cons_new {s : ByteArray} {ns l r : List ByteArray} (h : gath (s :: ns) l r) (hs : s ∉ l) : gath ns (l ++ [s]) r := by
  rcases h with h | h
  · exact absurd h.1 hs
  · exact h.2
theorem At.gen {A : Nat → Prop} {T : Tm} {g o : Nat} (h : At A W T g o) (hA : ∀ k, A k → k < W.heap.size) (t : Gr S W W') (hs : ∀ k, A k → ¬ S k) : At A W' T g o := h.turn (fun i hi => t.block i (hA i hi) (hs i hi))
theorem Nz.len {mc oc mb base t : Nat} {l : List ByteArray} (h : Nz W mc oc mb base l t) : mb < W.heap.size := by
  obtain ⟨_, _, n, R, _, h5, _⟩ := h; exact h5.lt
set_option maxRecDepth 20000 in
set_option maxHeartbeats 1600000 in
theorem look_nest (A : Nat → Prop) (W : World) (mc oc mb lc base : Nat) (g o : Nat) (k : Int) (hk : k = 6 ∨ k = 7) (ns r : List ByteArray) (hn : ns.length ≤ 256) (hat : At A W (.mk { k := k } [] (ns.map vr)) g o) (hN : Nz W mc oc mb base [] 0)
    (hlc : W.heap[lc]? = some (.cells #[.func (.func 31) #[] #[pt mc, pt oc, pt lc]] 72 (0, 0))) (hA : ∀ i, A i → i < base ∧ i ≠ oc ∧ i ≠ mb) (hb : mc < base ∧ oc < base ∧ mb < base ∧ lc < base ∧ base ≤ W.heap.size) (hne : mc ≠ oc ∧ lc ≠ oc ∧ lc ≠ mb) (hz : ∀ s ∈ ns, 1 ≤ s.size ∧ s.size ≤ 32) (hg : gath ns [] r) :
    Calls Try.prog 31 #[ptr g o, pt mc, pt oc, pt lc] W fun e w' => (∃ v, e = .returned v) ∧ Nz w' mc oc mb base r ns.length ∧ Gr (fun i => i = mb ∨ i = oc ∨ base ≤ i) W w' := by
  have HA := Lib.hid hA
  have Hat := Lib.hid hat
  have hAW : Hid (∀ i, A i → i < W.heap.size) := Lib.hid (fun i hi => by have := hA i hi; omega)
  obtain ⟨v, hr, hNs⟩ := hat.ns
  obtain ⟨t, bs, l', a1, c1, a2, c2, e, rfl⟩ := hr.ts
  cases e
  rw [List.length_map] at hNs
  obtain ⟨a, n', c, hc8, hnl, hel⟩ := hat.row
  have HNs := Lib.hid hNs
  obtain ⟨f0, f1, f2, f3, f4, f5, f6, f7, f8⟩ := hNs.facts
  have hgl := hNs.lt
  have hgA : g < base ∧ g ≠ oc ∧ g ≠ mb := hA g hat.1
  have e8 : Value.slice a n' c = Value.slice a2 ns.length c2 := by have := hc8.symm.trans f8; simpa using this
  cases e8
  have Hel := Lib.hid hel
  have HN := Lib.hid hN
  have Hlc := Lib.hid hlc
  have Hb := Lib.hid hb
  have Hne := Lib.hid hne
  have Hz := Lib.hid hz
  have Hg := Lib.hid hg
  have Hn := Lib.hid hn
  have hnI : (ns.length : Int) ≤ 256 := by omega
  have hn0 : (0 : Int) ≤ (ns.length : Int) := by omega
  have hk9 : (k == 9) = false := by rcases hk with rfl | rfl <;> decide
  have hk9' : ¬ k = 9 := by rcases hk with rfl | rfl <;> decide
  clear hA hat hr hNs hc8 hnl hel hN hlc hb hne hz hg hn hk
  go_enter Try.func31, Try.ntmps31
  go_wp2_with fail
  go_loopw [38] (fun v wr => ∃ (j : Nat) (l : List ByteArray), v = .int .i64 (j : Int) ∧ Hid (j ≤ ns.length) ∧ Hid (l.length ≤ j) ∧ Hid (Nz wr mc oc mb base l j) ∧ Hid (gath (ns.drop j) l r) ∧ Hid (Gr (fun i => i = mb ∨ i = oc ∨ base ≤ i) W wr)) (fun v _ => ns.length - (intOf v).toNat)
  case atStart => exact ⟨0, [], rfl, Lib.hid (Nat.zero_le _), Lib.hid (Nat.le_refl _), HN, Lib.hid Hg.out, Lib.hid (Gr.refl _ _)⟩
  case round =>
    obtain ⟨j, l, rfl, hj, hl, hNz, hga, hG⟩ := hrel
    clear HN Hg f0 f1 f2 f3 f4 f5 f6 f7 f8 hgl
    have hNs2 := HNs.out.g hG.out (by have := Hb.out; omega)
    obtain ⟨f0, f1, f2, f3, f4, f5, f6, f7, f8⟩ := hNs2.facts
    have hgl := hNs2.lt
    have hjI : (j : Int) ≤ 256 := by have := hj.out; omega
    have hj0 : (0 : Int) ≤ (j : Int) := by omega
    rcases Nat.lt_or_ge j ns.length with hz1 | hz1
    · have hzI : (j : Int) < (ns.length : Int) := by omega
      have hzN : decide (j < ns.length) = true := by simp; omega
      obtain ⟨s, hs⟩ : ∃ s, ns[j]? = some s := ⟨_, List.getElem?_eq_getElem hz1⟩
      have hx : (ns.map vr)[j]? = some (vr s) := by rw [List.getElem?_map, hs]; rfl
      obtain ⟨b, rfl, hcap, hats⟩ := Hel.out (by intro e; rw [List.map_eq_nil_iff] at e; rw [e] at hz1; simp at hz1)
      have hcI : (ns.length : Int) ≤ (c2 : Int) := by omega
      have hat1 := (hats j (vr s) hx).gen hAW.out hG.out (fun i hi e => by have := HA.out i hi; omega)
      obtain ⟨v, hr, hn1⟩ := hat1.ns
      obtain ⟨b1, d1, b2, d2, rfl⟩ := leaf_v hr
      have hbA := HA.out b hat1.1
      have hdr : ns.drop j = s :: ns.drop (j + 1) := by
        obtain ⟨h2, h3⟩ := List.getElem?_eq_some_iff.1 hs
        rw [List.drop_eq_getElem_cons h2, h3]
      have hsz := Hz.out s (List.mem_of_getElem? hs)
      have hlc2 := cell1 (hG.out.keep Hlc.out (by have := Hb.out; have := Hne.out; omega))
      obtain ⟨m0, m1, m2⟩ := hlc2
      have hcall : Hid (∀ w, Gr (fun _ => False) wr w → Calls Try.prog 31 #[ptr b (j * 9), pt mc, pt oc, pt lc] w fun e w' => (∃ v, e = .returned v) ∧ (∃ l2, l2.length ≤ j + 1 ∧ Nz w' mc oc mb base l2 (j + 1) ∧ gath (ns.drop (j + 1)) l2 r) ∧ Gr (fun i => i = mb ∨ i = oc ∨ base ≤ i) w w') := Lib.hid (fun w gw => by
        have hga' := hga.out
        rw [hdr] at hga'
        by_cases hsl : s ∈ l
        · refine (look_old w mc oc mb lc base l j b (j * 9) s b1 d1 b2 d2 (hNz.out.g0 gw) (hn1.gr gw) hsz.2 hsl (by have := hj.out; have := Hn.out; omega) Hb.out.2.2.1).mono ?_
          rintro e w' ⟨h1, h2, h3⟩
          exact ⟨h1, ⟨l, by have := hl.out; omega, h2, gath_cons_in hga' hsl⟩, h3⟩
        · refine (look_new w mc oc mb lc base l j b (j * 9) s b1 d1 b2 d2 (hNz.out.g0 gw) (hn1.gr gw) hsz.1 hsz.2 hsl (by have := hj.out; have := hl.out; have := Hn.out; omega) (by have := hj.out; have := Hn.out; omega) ⟨Hb.out.1, Hb.out.2.1, Hb.out.2.2.1, hbA.1, by have := Hb.out; have := hG.out.size; have := gw.size; omega⟩ ⟨Hne.out.1, hbA.2.1⟩).mono ?_
          rintro e w' ⟨h1, h2, h3⟩
          exact ⟨h1, ⟨l ++ [s], by simp; have := hl.out; omega, h2, gath_cons_new hga' hsl⟩, h3⟩)
      have Hz1 := Lib.hid hz1
      clear hs hx hcap hats hat1 hr hn1 hdr hsz hz1 Hel hga
      go_wp2_with fail
      go_region_with (first | (refine (hcall.out _ (Gr.drew _ _)).mono ?_; rintro e w2 ⟨⟨v2, rfl⟩, ⟨l2, h1, h2, h3⟩, h4⟩) | fail)
      all_goals
        go_wp2_with fail
        refine ⟨⟨j + 1, l2, by simp, Lib.hid Hz1.out, Lib.hid h1, Lib.hid h2, Lib.hid h3, Lib.hid (hG.out.trans ((Gr.drew _ _).trans h4))⟩, ?_⟩
        simp [intOf]; have := Hz1.out; omega
    · have hzI : decide ((j : Int) < (ns.length : Int)) = false := by simp; omega
      have hzN : decide (j < ns.length) = false := by simp; omega
      have e : j = ns.length := by have := hj.out; omega
      subst e
      have er : r = l := by have := hga.out; rw [List.drop_length] at this; exact this
      subst er
      clear hz1
      go_wp2_with fail
      exact bodyPost_end (v := .tuple #[]) (by simp [results, Try.results31, go_sem]) rfl ⟨⟨_, rfl⟩, hNz.out, hG.out⟩
set_option maxRecDepth 20000 in
set_option maxHeartbeats 1600000 in
theorem names_c (A : Nat → Prop) (W : World) (k : Int) (hk : k = 6 ∨ k = 7) (ns r : List ByteArray) (v : Value) (hn : ns.length ≤ 256) (hrep : Rep A W (.mk { k := k } [] (ns.map vr)) v) (hA : ∀ i, A i → i < W.heap.size) (hz : ∀ s ∈ ns, 1 ≤ s.size ∧ s.size ≤ 32) (hg : gath ns [] r) :
    Calls Try.prog 19 #[v] W fun e w' => ∃ v', e = .returned v' ∧ w'.ownsRow W.heap.size 9 1 v' r.length (r.map Value.string) ∧ Gr (fun _ => False) W w' := by
  have hmf : ∀ (fn : Fn) (first cap : Array Value) (w : World), (Instr.makeFunc fn first cap).run Try.prog w = .ok (.func fn first cap) w := fun _ _ _ _ => rfl
  have hmm : ∀ w, (Instr.makeMap 71 none).run Try.prog w = .ok (.map (some w.heap.size)) (w.alloc (.map #[] 0)) := fun _ => rfl
  obtain ⟨tk, tn, tx, ty, ts, ta, tc, td, a1, n1, c1, a2, n2, c2, rfl⟩ := hrep.agg
  have hbox := Lib.hid hrep.box
  have hAl := Lib.hid hA
  clear hrep hA
  go_enter Try.func19, Try.ntmps19
  go_wp2_with fail
  generalize hP : World.alloc W _ = P1 at hbox ⊢
  have sP : P1.heap.size = W.heap.size + 1 := by rw [← hP]; simp
  have gP : Gr (fun _ => False) W P1 := hP ▸ Gr.alloc W _ _
  generalize hX : World.alloc (World.alloc (World.alloc (World.alloc P1 _) _) _) _ = X
  have gX : Gr (fun _ => False) P1 X := hX ▸ (((Gr.alloc _ _ _).trans (Gr.alloc _ _ _)).trans (Gr.alloc _ _ _)).trans (Gr.alloc _ _ _)
  have zX : X.heap.size = W.heap.size + 5 := by rw [← hX]; simp [sP]
  have x1 : X.heap[W.heap.size + 1]? = some (.cells #[.slice none 0 0] 45 (0, 0)) := by
    subst hX; simp only [al, World.size_alloc, sP]; repeat (first | rw [if_pos trivial] | rw [if_pos (by omega)] | rw [if_neg (by omega)])
  have x3 : X.heap[W.heap.size + 1 + 1 + 1]? = some (.cells #[.map (some (W.heap.size + 1 + 1))] 71 (0, 0)) := by
    subst hX; simp only [al, World.size_alloc, sP]; repeat (first | rw [if_pos trivial] | rw [if_pos (by omega)] | rw [if_neg (by omega)])
  have x4 : X.heap[W.heap.size + 1 + 1 + 1 + 1]? = some (.cells #[.func (.func 31) #[] #[pt (W.heap.size + 1 + 1 + 1), pt (W.heap.size + 1), pt (W.heap.size + 1 + 1 + 1 + 1)]] 72 (0, 0)) := by
    subst hX; simp only [al, World.size_alloc, sP]; repeat (first | rw [if_pos trivial] | rw [if_pos (by omega)] | rw [if_neg (by omega)])
  have xm : Mo X (W.heap.size + 1 + 1) (.int .i64 0) 0 (fun _ => none) := by
    have h := Mo.new (P1.alloc (.cells #[.slice none 0 0] 45)) (.int .i64 0)
    rw [World.size_alloc, sP] at h
    subst hX
    exact h.gr ((Gr.alloc _ _ (fun _ => False)).trans (Gr.alloc _ _ _)) (fun e => e)
  have hNz : Nz X (W.heap.size + 1 + 1 + 1) (W.heap.size + 1) (W.heap.size + 1 + 1) (W.heap.size + 5) [] 0 := ⟨x3, ⟨_, x1, World.ownsRow_nil _ _ _ _⟩, 0, _, Nat.le_refl _, xm, fun s => .inl ⟨rfl, by simp⟩⟩
  have hat : At (fun i => A i ∨ i = W.heap.size) X (.mk { k := k } [] (ns.map vr)) W.heap.size 0 := hbox.out.gen (fun i hi => by rcases hi with hi | hi; have := hAl.out i hi; omega; omega) gX (fun _ _ e => e)
  have hcall := Lib.hid (look_nest _ X (W.heap.size + 1 + 1 + 1) (W.heap.size + 1) (W.heap.size + 1 + 1) (W.heap.size + 1 + 1 + 1 + 1) (W.heap.size + 5) W.heap.size 0 k hk ns r hn hat hNz x4 (fun i hi => by rcases hi with hi | hi; have := hAl.out i hi; omega; omega) (by omega) (by omega) hz hg)
  have GX := Lib.hid (gP.trans gX)
  clear hX hP hat hNz xm x1 x3 x4 gX gP hz hg hn hk hbox sP
  refine hcall.out.mono ?_
  rintro e w2 ⟨⟨v2, rfl⟩, hN2, g2⟩
  obtain ⟨v', o2, r2⟩ := hN2.out
  obtain ⟨k0, k1, k2⟩ := cell1 o2
  obtain ⟨av, cv, rfl⟩ := ownsRow_sv r2
  have G2 := Lib.hid (GX.out.trans' g2 (fun i hi e => by omega))
  clear hcall hN2 g2
  go_wp2_with fail
  go_ret
  exact ⟨_, rfl, ownsRow_mono r2 (by omega), G2.out⟩
end Go.Proofs.Ytfamepdghememaa

