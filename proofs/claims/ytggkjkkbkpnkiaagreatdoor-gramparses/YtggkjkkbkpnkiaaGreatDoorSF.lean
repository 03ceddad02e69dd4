/-
  The walk of GramParses.
-/
import Derived.Test.YtggkjkkbkpnkiaaGreatDoorSE
set_option linter.unusedVariables false
set_option linter.unusedSimpArgs false
namespace Go.Proofs.YtggkjkkbkpnkiaaGreatDoor
open Go.RowKit Go.Maps
variable {W W' : World}
theorem EndP.told2 {e : Ending} {r : Except (Nat × Int) Tr} (h : EndP W e W' r) : ∃ k s n a1 n1 c1 a2 n2 c2, e = .returned (.tuple #[trv k s n (.slice a1 n1 c1) (.slice a2 n2 c2), .int .i64 (telR r).2.1, .int .i64 (telR r).2.2]) ∧
    Rep (fun z => W.heap.size ≤ z) W' (telR r).1 (trv k s n (.slice a1 n1 c1) (.slice a2 n2 c2)) ∧ Gr (fun _ => False) W W' := by
  cases r with
  | ok T =>
    obtain ⟨v, rfl, hr, hg⟩ := h
    obtain ⟨k, s, n, a1, n1, c1, a2, n2, c2, rfl⟩ := hr.agg
    exact ⟨k, s, n, a1, n1, c1, a2, n2, c2, rfl, hr, hg⟩
  | error p =>
    obtain ⟨i, c⟩ := p
    obtain ⟨rfl, hg⟩ := h
    exact ⟨_, _, _, _, _, _, _, _, _, rfl, rep0 _ _, hg⟩
/-- A row of bytes that is written to: bytes, between two blocks. -/
def Bx (C gb : Nat) (w : World) (n : Nat) (v : Value) : Prop := ∃ a c, v = .slice a n c ∧ (0 < n → ∃ g cur, a = some ⟨g, 0, none⟩ ∧ gb < g ∧ g < C ∧ w.heap[g]? = some (.cells cur 5 (0, 0)) ∧ ∀ j, j < n → ∃ z, cur[j]? = some (.int .u8 z))
theorem Bx.of {gb : Nat} {bs : List Int} {v : Value} (h : RowB (fun z => gb < z) W bs v) : Bx W.heap.size gb W bs.length v := by
  rcases h with ⟨rfl, a, c, rfl⟩ | ⟨g, cap, cur, rfl, hg, hc, h1, h2⟩
  · exact ⟨a, c, rfl, fun h => absurd h (by decide)⟩
  · refine ⟨_, cap, rfl, fun _ => ⟨g, cur, rfl, hg, (Array.getElem?_eq_some_iff.1 hc).1, hc, fun j hj => ?_⟩⟩
    have e : (cur.toList.take bs.length)[j]? = some (.int .u8 bs[j]) := by rw [h2]; simp [hj]
    rw [List.getElem?_take_of_lt hj] at e
    exact ⟨bs[j], by simpa using e⟩
theorem Bx.gr {C gb n : Nat} {v : Value} {S : Nat → Prop} (h : Bx C gb W n v) (g : Gr S W W') (hs : ∀ k, gb < k → k < C → ¬ S k) : Bx C gb W' n v := by
  obtain ⟨a, c, hv, hp⟩ := h
  refine ⟨a, c, hv, fun hn => ?_⟩
  obtain ⟨b, cur, ha, h1, h2, h3, h4⟩ := hp hn
  exact ⟨b, cur, ha, h1, h2, g.keep h3 (hs b h1 h2), h4⟩
theorem Bx.set {C gb n g' j' : Nat} {v : Value} {cur' : Array Value} {y : Int} (h : Bx C gb W n v) (hg : W.heap[g']? = some (.cells cur' 5 (0, 0))) : Bx C gb (W.setCell ⟨g', j', none⟩ (.int .u8 y)) n v := by
  obtain ⟨a, c, hv, hp⟩ := h
  refine ⟨a, c, hv, fun hn => ?_⟩
  obtain ⟨b, cur, ha, h1, h2, h3, h4⟩ := hp hn
  by_cases e : b = g'
  · subst e
    rw [hg] at h3
    cases h3
    refine ⟨b, cur'.setIfInBounds j' (.int .u8 y), ha, h1, h2, heap_setCell_same W b j' _ 5 _ hg, fun j hj => ?_⟩
    obtain ⟨z, hz⟩ := h4 j hj
    by_cases ej : j' = j
    · subst ej
      have hl := (Array.getElem?_eq_some_iff.1 hz).1
      exact ⟨y, by rw [Array.getElem?_setIfInBounds_self_of_lt hl]⟩
    · exact ⟨z, by rw [Array.getElem?_setIfInBounds_ne ej]; exact hz⟩
  · have gs : Gr (fun k => k = g') W (W.setCell ⟨g', j', none⟩ (.int .u8 y)) := Gr.set _ _ _ rfl
    exact ⟨b, cur, ha, h1, h2, gs.keep h3 e, h4⟩
/-- All rows of the copy's bytes. -/
def BxA (C gb : Nat) (w : World) (ts : List Tn) (ws : List Value) : Prop := ∀ (k : Nat) (t : Tn) (v : Value), ts[k]? = some t → ws[k]? = some v → Bx C gb w t.b.length v
theorem bsk_of {A : Nat → Prop} {w : World} : ∀ {ts : List Tn} {ws : List Value}, ws.length = ts.length → (∀ (k : Nat) (t : Tn), ts[k]? = some t → ∃ v, ws[k]? = some v ∧ RowB A w t.b v) → BsK A w ts ws
  | [], [], _, _ => trivial
  | [], _ :: _, h, _ => by simp at h
  | _ :: _, [], h, _ => by simp at h
  | t :: ts, v :: ws, h, hk => by
    obtain ⟨v', h1, h2⟩ := hk 0 t rfl
    cases h1
    exact ⟨h2, bsk_of (by simpa using h) (fun k t ht => by
      obtain ⟨v', h1, h2⟩ := hk (k + 1) t (by simpa using ht)
      exact ⟨v', by simpa using h1, h2⟩)⟩
theorem TokK.g0 {N : Nat} {ts : List Tn} {vs : List Value} {a : Option Addr} (h : TokK N W ts vs a) (g : Gr (fun _ => False) W W') : TokK N W' ts vs a := h.turn (fun k hk hl => ⟨hk, g.block k hl (fun e => e)⟩)
set_option maxRecDepth 100000 in
set_option maxHeartbeats 1600000 in
theorem gparses_c (W : World) {ts : List Tn} {vs : List Value} {a : Option Addr} {c : Nat} (h : TokK W.heap.size W ts vs a) (hvs : vs.length = ts.length) (ha : a = none → ts.length = 0 ∧ c = 0) (hc : ts.length ≤ c) (hlen : ts.length ≤ 4611686018427387904)
    (hS : ∀ t ∈ ts, t.s.size ≤ 140737488351232) (hB : ∀ t ∈ ts, t.b.length ≤ 140737488351232) (hEr : Er W) (hSg : Sg W) (hLv : Lv W) : Calls Tryz.prog 3 #[.slice a ts.length c] W fun e w' => e = .returned (.bool true) ∧ Gr (fun _ => False) W w' := by
  have h4 : 4 < W.heap.size := by obtain ⟨_, t, f, h⟩ := hLv; exact (Array.getElem?_eq_some_iff.1 h).1
  have hal := alive_c W hEr hSg hLv
  have hlg := Lib.hid (fun w (g : Gr (fun _ => False) W w) => toklarge_c (c := c) (h.g0 g) hlen hB)
  have HT := Lib.hid h
  have Hvs := Lib.hid hvs
  have Ha := Lib.hid ha
  have Hc := Lib.hid hc
  have HS := Lib.hid hS
  have HL := Lib.hid hLv
  have H4 := Lib.hid h4
  obtain ⟨wn, hwn⟩ : ∃ wn, W.heap.size = wn := ⟨_, rfl⟩
  have Hwn := Lib.hid hwn
  clear h hvs ha hc hlen hS hB hEr hSg hLv h4 hwn
  go_enter Tryz.func3, Tryz.ntmps3
  go_wp2_with fail
  refine hal.mono ?_
  rintro e w1 ⟨rfl, g1⟩
  clear hal
  have hlg1 := Lib.hid (hlg.out w1 g1)
  clear hlg
  go_wp2_with fail
  refine hlg1.out.mono ?_
  intro e w2 hend
  obtain ⟨rb, rfl, hrb, g2⟩ := hend
  have G2' := Lib.hid (g1.trans g2)
  clear hlg1 g1 g2
  cases rb with
  | true =>
    clear hrb
    go_wp2_with fail
    go_ret
    exact ⟨rfl, G2'.out⟩
  | false =>
    obtain ⟨hn45, hsum⟩ := hrb rfl
    have hn := Lib.hid hn45
    have hsm := Lib.hid hsum
    have HT2 := Lib.hid (HT.out.g0 G2'.out)
    have hlit : (w2.alloc (.cells #[] 27)).ownsRow w2.heap.size 27 5 (.slice (some ⟨w2.heap.size, 0, none⟩) 0 0) 0 [] := by
      simpa using World.ownsRow_lit (base := w2.heap.size) (e := 27) (size := 5) w2 #[] 0 (Nat.le_refl _) (by unfold maxLen; omega) rfl
    have ga := Gr.alloc w2 (.cells #[] 27) (fun _ => False)
    have HT3 := Lib.hid (HT2.out.g0 ga)
    have hlit' := Lib.hid hlit
    clear hrb hn45 hsum hlit
    go_wp2_with (first
      | (at_builtin; refine wpList_tok _ rfl _ _ rfl w2.heap.size w2.heap.size (ts := ts) (vs := vs) rfl rfl hlit'.out HT3.out Hvs.out Ha.out hn.out ga.size ?_; intro gb cp w3 hrow3 hgr3)
      | fail)
    obtain ⟨hgb, cur3, hcur3, hcp, hcs3, htk3⟩ : w2.heap.size ≤ gb ∧ ∃ cur, w3.heap[gb]? = some (.cells cur 27 (0, 0)) ∧ ts.length ≤ cp ∧ cur.size = cp * 5 ∧ cur.toList.take (ts.length * 5) = tncs ts vs := by
      rcases hrow3.2 with ⟨e, _⟩ | ⟨g', cap, cur, e, k1, k2, k3, k4, k5, k6⟩
      · cases e
      · cases e
        exact ⟨k1, cur, k2, k3, k5, k6⟩
    have G3 : Gr (fun _ => False) W w3 := (G2'.out.trans ga).trans' (Gr.of_grown (S := fun k => k = w2.heap.size) hgr3 (fun z e => by cases e; rfl)) (fun k hk e => by have := G2'.out.size; omega)
    have K3 : Hid (CpR w3 ts vs gb) := ⟨cur3, cp, hcur3, hcs3, hcp, htk3⟩
    have hgW : Hid (wn ≤ gb) := by have := G2'.out.size; have := Hwn.out; show _ ≤ _; omega
    have hcp' := Lib.hid hcp
    have hnI : (ts.length : Int) ≤ 4500 := by have := hn.out; omega
    replace G3 := Lib.hid G3
    clear hrow3 hgr3 ga HT3 hlit' HT2 hcur3 hcs3 htk3 hgb hcp
    go_loopw [4] (fun u wr => ∃ (i : Nat) (ws : List Value), i ≤ ts.length ∧ u = .int .i64 (i : Int) ∧ Hid (ws.length = ts.length) ∧ Hid (CpR wr ts ws gb) ∧ Hid (∀ (k : Nat) (t : Tn), k < i → ts[k]? = some t → ∃ v, ws[k]? = some v ∧ RowB (fun z => gb < z) wr t.b v) ∧ Hid (Gr (fun _ => False) W wr)) (fun u _ => ts.length - (intOf u).toNat)
    case atStart => exact ⟨0, vs, Nat.zero_le _, rfl, Hvs, K3, fun k t hk _ => absurd hk (Nat.not_lt_zero _), G3⟩
    case round =>
      clear K3 G3 G2'
      obtain ⟨i, ws, hi, rfl, hwl, hCp, hRows, hG⟩ := hrel
      by_cases hlt : i < ts.length
      · have hdi : decide ((i : Int) < (ts.length : Int)) = true := by simp; omega
        obtain ⟨g, o, ha0, hat⟩ := (HT.out.g0 hG.out).place
        obtain ⟨hxa, hgN⟩ := ha0 (by omega)
        subst hxa
        obtain ⟨t, hti⟩ : ∃ t, ts[i]? = some t := ⟨_, List.getElem?_eq_getElem hlt⟩
        obtain ⟨v, hv, hb, hcell⟩ := hat i t hti
        obtain ⟨ba, bc, rfl⟩ := hb.sv
        have c3 : wr.cell? ⟨g, o + i * 5 + 3, none⟩ = some (.slice ba t.b.length bc) := hcell 3 _ rfl
        have hgl : g < wr.heap.size := World.block_lt_of_cell? _ _ c3
        obtain ⟨wv, hwv⟩ : ∃ wv, ws[i]? = some wv := ⟨_, List.getElem?_eq_getElem (by rw [hwl.out]; exact hlt)⟩
        obtain ⟨o3, fr3⟩ := hCp.out.at i 3 t wv hti hwv (by decide) wv rfl
        have hgbl : gb < wr.heap.size := World.block_lt_of_cell? _ _ o3
        have hgne : gb ≠ g := by have := hgW.out; have := Hwn.out; omega
        have ho : Ob wr.heap.size (wr.alloc (.cells #[] 5)) (.slice (some ⟨wr.heap.size, 0, none⟩) 0 0) [] := Ob.lit wr.heap.size wr [] (by simp) (Nat.le_refl _) #[] rfl 0 rfl
        have ga := Gr.alloc wr (.cells #[] 5) (fun _ => False)
        have hsb := hb.sb.gr ga
        have hbl : Hid (t.b.length ≤ 131072) := Nat.le_trans (bsum_mem (List.mem_of_getElem? hti)) hsm.out
        have hti' := Lib.hid hti
        have hgl2 : g < wr.heap.size + 1 := by omega
        have hgb2 : gb < wr.heap.size + 1 := by omega
        have hg3 : g ≠ wr.heap.size := by omega
        have hg4 : gb ≠ wr.heap.size := by omega
        clear hv hb hcell hat ha0 hti
        replace ho := Lib.hid ho
        replace hsb := Lib.hid hsb
        go_wp2_with (first
          | (at_builtin; refine wpList_ap rfl _ _ rfl wr.heap.size (.slice (some ⟨wr.heap.size, 0, none⟩) 0 0) (.slice ba t.b.length bc) [] t.b rfl rfl ho.out hsb.out (by have := hbl.out; simp; omega) ga.size ?_; intro v1 w1 o1 l1; obtain ⟨v1a, v1c, rfl⟩ := o1.sv; have Gw : Gr (fun k => k = wr.heap.size) (wr.alloc (.cells #[] 5)) w1 := l1.gr.mono (fun z _ e => by cases e; rfl); have gA : Gr (fun _ => False) wr w1 := ga.trans' Gw (fun k hk e => by omega); have o3' := cell_gr o3 gA (fun e => e); have HC1 := hCp.out.gr gA (fun e => e); obtain ⟨o3w, fr3w⟩ := HC1.at i 3 t wv hti'.out hwv (by decide) wv rfl; have hgb1 : gb < w1.heap.size := World.block_lt_of_cell? _ _ o3w; have HC1' := Lib.hid HC1; clear HC1 o3')
          | fail)
        have hset := HC1'.out.set (v := .slice v1a t.b.length v1c) hwl.out hlt
        have gs : Gr (fun k => k = gb) w1 (w1.setCell ⟨gb, i * 5 + 3, none⟩ (.slice v1a t.b.length v1c)) := Gr.set _ _ _ rfl
        have GF : Hid (Gr (fun _ => False) W (w1.setCell ⟨gb, i * 5 + 3, none⟩ (.slice v1a t.b.length v1c))) := (hG.out.trans gA).trans' gs (fun k hk e => by have := hgW.out; have := Hwn.out; omega)
        have hrows2 : Hid (∀ (k : Nat) (t' : Tn), k < i + 1 → ts[k]? = some t' → ∃ v, (ws.set i (.slice v1a t.b.length v1c))[k]? = some v ∧ RowB (fun z => gb < z) (w1.setCell ⟨gb, i * 5 + 3, none⟩ (.slice v1a t.b.length v1c)) t'.b v) := fun k t' hk ht' => by
          by_cases e : k = i
          · subst e
            rw [hti'.out] at ht'
            cases ht'
            refine ⟨_, by rw [List.getElem?_set_self (by rw [hwl.out]; exact hlt)], ?_⟩
            have h5 := rowB_own (N := wr.heap.size) (bs := t.b) (W := w1) (v := .slice v1a t.b.length v1c) (by have := o1.row; simpa [u8s] using this)
            exact h5.turn (fun z hz hl => ⟨by have h6 : wr.heap.size ≤ z := hz; show gb < z; omega, gs.block z hl (by have h6 : wr.heap.size ≤ z := hz; omega)⟩)
          · obtain ⟨v', h5, h6⟩ := hRows.out k t' (by omega) ht'
            refine ⟨v', by rw [List.getElem?_set_ne (fun e2 => e e2.symm)]; exact h5, h6.turn (fun z hz hl => ⟨hz, ?_⟩)⟩
            have h7 : gb < z := hz
            exact (gs.block z (Nat.lt_of_lt_of_le hl gA.size) (by omega)).trans (gA.block z hl (fun e => e))
        exact ⟨⟨i + 1, ws.set i (.slice v1a t.b.length v1c), hlt, by go_num, by show _ = _; rw [List.length_set]; exact hwl.out, hset, hrows2, GF⟩, by simp [intOf]; omega⟩
      · have hdi : decide ((i : Int) < (ts.length : Int)) = false := by simp; omega
        obtain rfl : i = ts.length := by omega
        have hrowsF : ∀ (k : Nat) (t : Tn), ts[k]? = some t → ∃ v, ws[k]? = some v ∧ RowB (fun z => gb < z) wr t.b v := fun k t ht => hRows.out k t (List.getElem?_eq_some_iff.1 ht).1 ht
        have hbs : BsK (fun z => z < wr.heap.size) wr ts ws := bsk_of hwl.out (fun k t ht => by
          obtain ⟨v, h5, h6⟩ := hrowsF k t ht
          exact ⟨v, h5, h6.turn (fun z hz hl => ⟨hl, rfl⟩)⟩)
        have hXA : Hid (BxA wr.heap.size gb wr ts ws) := fun k t v ht hv => by
          obtain ⟨v', h5, h6⟩ := hrowsF k t ht
          rw [hv] at h5
          cases h5
          exact Bx.of h6
        have hrk : RowK (fun z => z < wr.heap.size) wr ts ws (some ⟨gb, 0, none⟩) cp := by
          obtain ⟨cur, cap, k1, k2, k3, k4⟩ := hCp.out
          exact .inr ⟨gb, cur, rfl, (Array.getElem?_eq_some_iff.1 k1).1, k1, k4⟩
        have hp := Lib.hid (parse_c wr ts ws (some ⟨gb, 0, none⟩) cp hrk hbs hcp'.out (by have := hn.out; omega) HS.out (fun t ht => by have := bsum_mem ht; have := hsm.out; omega) (HL.out.gr hG.out (fun e => e) (fun e => e)) (Nat.lt_of_lt_of_le H4.out hG.out.size))
        have hpr := Lib.hid (fun w (g : Gr (fun _ => False) W w) => rparse_c { N := W.heap.size, ts := ts, vs := vs, a := a, c := c } w ⟨HT.out.g0 g, g.size, Nat.zero_le _, Nat.zero_le _, Hc.out, by have := hn.out; show ts.length ≤ _; omega, HS.out, fun t ht => by have h7 : t.b.length ≤ bsum ts := bsum_mem ht; have := hsm.out; omega⟩)
        generalize hrr : parseV ts = r at hp
        have hpr2 : Hid (∀ w, Gr (fun _ => False) W w → Calls Tryz.prog 8 #[.slice a ts.length c] w fun e w' => EndP w e w' r) := fun w g => by have := hpr.out w g; rw [← hrr]; exact this
        clear hpr hrr hrowsF hbs hrk hRows
        go_wp2_with fail
        refine hp.out.mono ?_
        intro e w5 h5
        obtain ⟨pk, ps, pn, a1, n1, c1, a2, n2, c2, rfl, rep5, g5⟩ := h5.told2
        clear h5 hp
        have gA := Gr.alloc w5 (.cells #[.int .i64 pk, .string ps, .int .i64 pn, .slice a1 n1 c1, .slice a2 n2 c2] 30) (fun _ => False)
        have hA := Lib.hid (heap_alloc_new w5 (.cells #[.int .i64 pk, .string ps, .int .i64 pn, .slice a1 n1 c1, .slice a2 n2 c2] 30))
        have hC : Hid (gb < wr.heap.size) := by
          obtain ⟨cur, cap, k1, _⟩ := hCp.out
          exact (Array.getElem?_eq_some_iff.1 k1).1
        have hCp6 := Lib.hid ((hCp.out.gr g5 (fun e => e)).gr gA (fun e => e))
        have hX6 : Hid (BxA wr.heap.size gb (w5.alloc (.cells #[.int .i64 pk, .string ps, .int .i64 pn, .slice a1 n1 c1, .slice a2 n2 c2] 30)) ts ws) := fun k t v h1 h2 => ((hXA.out k t v h1 h2).gr g5 (fun _ _ _ e => e)).gr gA (fun _ _ _ e => e)
        have hR6 : Hid (Rep (fun z => wr.heap.size ≤ z) (w5.alloc (.cells #[.int .i64 pk, .string ps, .int .i64 pn, .slice a1 n1 c1, .slice a2 n2 c2] 30)) (telR r).1 (trv pk ps pn (.slice a1 n1 c1) (.slice a2 n2 c2))) := rep5.turn (fun z hz hl => ⟨hz, gA.block z hl (fun e => e)⟩)
        have hG6 := Lib.hid ((hG.out.trans g5).trans gA)
        have hwr5 : Hid (wr.heap.size ≤ w5.heap.size) := g5.size
        obtain ⟨C, hCC⟩ : ∃ C, wr.heap.size = C := ⟨_, rfl⟩
        rw [hCC] at hC hX6 hR6 hwr5
        have hi1 : IntKind.i64.wrap 0 = 0 := by decide
        clear rep5 g5 gA hCp hXA hG hCC hi1
        go_wp2_with fail
        generalize w5.alloc _ = w6 at hA hCp6 hX6 hR6 hG6 ⊢
        obtain ⟨tb, htb⟩ : ∃ tb, w5.heap.size = tb := ⟨_, rfl⟩
        rw [htb] at hA hwr5 ⊢
        clear htb
        go_loopw [8] (fun u wo => ∃ i : Nat, i ≤ ts.length ∧ u = .int .i64 (i : Int) ∧ Hid (BxA C gb wo ts ws) ∧ Hid (Gr (fun z => gb < z ∧ z < C) w6 wo)) (fun u _ => ts.length - (intOf u).toNat)
        case atStart => exact ⟨0, Nat.zero_le _, rfl, hX6, Gr.refl _ _⟩
        case round =>
          obtain ⟨i, hi, rfl, hX, hG⟩ := hrel
          by_cases hlt : i < ts.length
          · have hdi : decide ((i : Int) < (ts.length : Int)) = true := by simp; omega
            obtain ⟨t, hti⟩ : ∃ t, ts[i]? = some t := ⟨_, List.getElem?_eq_getElem hlt⟩
            obtain ⟨wv, hwv⟩ : ∃ wv, ws[i]? = some wv := ⟨_, List.getElem?_eq_getElem (by rw [hwl.out]; exact hlt)⟩
            obtain ⟨ba, bc, rfl, _⟩ := hX.out i t wv hti hwv
            have hti' := Lib.hid hti
            have hwv' := Lib.hid hwv
            have hbl : Hid (t.b.length ≤ 131072) := Nat.le_trans (bsum_mem (List.mem_of_getElem? hti)) hsm.out
            have hbI : (t.b.length : Int) ≤ 131072 := by have := hbl.out; omega
            have hiI : (i : Int) ≤ 4500 := by omega
            clear hti hwv
            go_wp2_with fail
            go_loopw [9] (fun u wi => ∃ k : Nat, k ≤ t.b.length ∧ u = .int .i64 (k : Int) ∧ Hid (BxA C gb wi ts ws) ∧ Hid (Gr (fun z => gb < z ∧ z < C) w6 wi)) (fun u _ => t.b.length - (intOf u).toNat)
            case atStart => exact ⟨0, Nat.zero_le _, rfl, hX, hG⟩
            case round =>
              clear hX hG
              obtain ⟨k, hk, rfl, hX, hG⟩ := hrel
              obtain ⟨kO', _⟩ := (hCp6.out.gr hG.out (fun e => by have := e.1; omega)).at i 3 t _ hti'.out hwv'.out (by decide) _ rfl
              have hgbl : gb < wr.heap.size := World.block_lt_of_cell? _ _ kO'
              by_cases hkl : k < t.b.length
              · have hdk : decide ((k : Int) < (t.b.length : Int)) = true := by simp; omega
                have hkI : (k : Int) ≤ 131072 := by have := hbl.out; omega
                obtain ⟨a', c', he, hp'⟩ := hX.out i t _ hti'.out hwv'.out
                cases he
                obtain ⟨gk, cur, hba, h1, h2, h3, hz4⟩ := hp' (by omega)
                subst hba
                obtain ⟨z, hz⟩ := hz4 k hkl
                have hgkl : gk < wr.heap.size := (Array.getElem?_eq_some_iff.1 h3).1
                have kB : wr.drew.cell? ⟨gk, k, none⟩ = some (.int .u8 z) := by
                  have : wr.cell? ⟨gk, k, none⟩ = some (.int .u8 z) := by simp only [World.cell?, h3]; simpa using hz
                  exact this
                have kF : wr.drew.frozen? ⟨gk, k, none⟩ = false := by
                  have hl := (Array.getElem?_eq_some_iff.1 hz).1
                  have : wr.frozen? ⟨gk, k, none⟩ = false := by simp [World.frozen?, h3]
                  exact this
                have kO : wr.drew.cell? ⟨gb, i * 5 + 3, none⟩ = some (.slice (some ⟨gk, 0, none⟩) t.b.length bc) := kO'
                have hd3 : wr.drew.heap[gk]? = some (.cells cur 5 (0, 0)) := h3
                have hXd : Hid (BxA C gb wr.drew ts ws) := fun k t v q1 q2 => (hX.out k t v q1 q2).gr (Gr.drew wr (fun _ => False)) (fun _ _ _ e => e)
                have hGd := Lib.hid (hG.out.trans (Gr.drew wr _))
                have hgl9 : gb < wr.drew.heap.size := hgbl
                have hkl9 : gk < wr.drew.heap.size := hgkl
                replace h1 := Lib.hid h1
                replace h2 := Lib.hid h2
                clear h3 hz hz4 hp' hX hG
                go_wp2_with fail
                clear kO'
                have TS : Gr (fun _ => False) wr.drew wr.drew := Gr.refl _ _
                refine wp_region_L (L := 16) (T := fun w => Gr (fun _ => False) wr.drew w) (by kernel_rfl) ?_
                generalize wr.drew = wd at TS kB kF kO hd3 hXd hGd hgl9 hkl9 ⊢
                refine wpAnyL_at (i := 0) (v := (.slice (some ⟨gb, 0, none⟩) ts.length cp)) (some 59) rfl rfl (by kernel_rfl) (by kernel_rfl) (by kernel_rfl) (by kernel_rfl) (by decide) (fun _ _ _ h => h) (Or.inl ⟨by rfl, ?_⟩) TS ?_
                · intro w hSw
                  go_simp
                  try (intro h; exfalso; omega)
                try simp only [Act.put, List.setIfInBounds_toArray, List.set_cons_zero, List.set_cons_succ]
                refine wpAnyL_at (i := 1) (v := (.int .i64 (i : Int))) (some 60) rfl rfl (by kernel_rfl) (by kernel_rfl) (by kernel_rfl) (by kernel_rfl) (by decide) (fun _ _ _ h => h) (Or.inl ⟨by rfl, ?_⟩) TS ?_
                · intro w hSw
                  go_simp
                  try (intro h; exfalso; omega)
                try simp only [Act.put, List.setIfInBounds_toArray, List.set_cons_zero, List.set_cons_succ]
                refine wpAnyL_at (i := 2) (v := (ptr gb (i * 5))) (some 61) rfl rfl (by kernel_rfl) (by kernel_rfl) (by kernel_rfl) (by kernel_rfl) (by decide) (fun _ _ _ h => h) (Or.inl ⟨by rfl, ?_⟩) TS ?_
                · intro w hSw
                  go_simp
                  try (intro h; exfalso; omega)
                try simp only [Act.put, List.setIfInBounds_toArray, List.set_cons_zero, List.set_cons_succ]
                refine wpAnyL_at (i := 3) (v := (ptr gb (i * 5 + 3))) (some 62) rfl rfl (by kernel_rfl) (by kernel_rfl) (by kernel_rfl) (by kernel_rfl) (by decide) (fun _ _ _ h => h) (Or.inl ⟨by rfl, ?_⟩) TS ?_
                · intro w hSw
                  go_simp
                  try (intro h; exfalso; omega)
                try simp only [Act.put, List.setIfInBounds_toArray, List.set_cons_zero, List.set_cons_succ]
                refine wpAnyL_at (i := 4) (v := (.slice (some ⟨gk, 0, none⟩) t.b.length bc)) (some 63) rfl rfl (by kernel_rfl) (by kernel_rfl) (by kernel_rfl) (by kernel_rfl) (by decide) (fun _ _ _ h => h) (Or.inl ⟨by rfl, ?_⟩) TS ?_
                · intro w hSw
                  have qq0 := cell_gr kO hSw (fun e => e)
                  have qz := World.block_lt_of_cell? _ _ qq0
                  go_simp
                  try (intro h; exfalso; omega)
                try simp only [Act.put, List.setIfInBounds_toArray, List.set_cons_zero, List.set_cons_succ]
                refine wpAnyL_at (i := 5) (v := (.int .i64 (k : Int))) (some 64) rfl rfl (by kernel_rfl) (by kernel_rfl) (by kernel_rfl) (by kernel_rfl) (by decide) (fun _ _ _ h => h) (Or.inl ⟨by rfl, ?_⟩) TS ?_
                · intro w hSw
                  go_simp
                  try (intro h; exfalso; omega)
                try simp only [Act.put, List.setIfInBounds_toArray, List.set_cons_zero, List.set_cons_succ]
                refine wpAnyL_at (i := 6) (v := (.slice (some ⟨gb, 0, none⟩) ts.length cp)) (some 65) rfl rfl (by kernel_rfl) (by kernel_rfl) (by kernel_rfl) (by kernel_rfl) (by decide) (fun _ _ _ h => h) (Or.inl ⟨by rfl, ?_⟩) TS ?_
                · intro w hSw
                  go_simp
                  try (intro h; exfalso; omega)
                try simp only [Act.put, List.setIfInBounds_toArray, List.set_cons_zero, List.set_cons_succ]
                refine wpAnyL_at (i := 7) (v := (.int .i64 (i : Int))) (some 66) rfl rfl (by kernel_rfl) (by kernel_rfl) (by kernel_rfl) (by kernel_rfl) (by decide) (fun _ _ _ h => h) (Or.inl ⟨by rfl, ?_⟩) TS ?_
                · intro w hSw
                  go_simp
                  try (intro h; exfalso; omega)
                try simp only [Act.put, List.setIfInBounds_toArray, List.set_cons_zero, List.set_cons_succ]
                refine wpAnyL_at (i := 8) (v := (ptr gb (i * 5))) (some 67) rfl rfl (by kernel_rfl) (by kernel_rfl) (by kernel_rfl) (by kernel_rfl) (by decide) (fun _ _ _ h => h) (Or.inl ⟨by rfl, ?_⟩) TS ?_
                · intro w hSw
                  go_simp
                  try (intro h; exfalso; omega)
                try simp only [Act.put, List.setIfInBounds_toArray, List.set_cons_zero, List.set_cons_succ]
                refine wpAnyL_at (i := 9) (v := (ptr gb (i * 5 + 3))) (some 68) rfl rfl (by kernel_rfl) (by kernel_rfl) (by kernel_rfl) (by kernel_rfl) (by decide) (fun _ _ _ h => h) (Or.inl ⟨by rfl, ?_⟩) TS ?_
                · intro w hSw
                  go_simp
                  try (intro h; exfalso; omega)
                try simp only [Act.put, List.setIfInBounds_toArray, List.set_cons_zero, List.set_cons_succ]
                refine wpAnyL_at (i := 10) (v := (.slice (some ⟨gk, 0, none⟩) t.b.length bc)) (some 69) rfl rfl (by kernel_rfl) (by kernel_rfl) (by kernel_rfl) (by kernel_rfl) (by decide) (fun _ _ _ h => h) (Or.inl ⟨by rfl, ?_⟩) TS ?_
                · intro w hSw
                  have qq0 := cell_gr kO hSw (fun e => e)
                  have qz := World.block_lt_of_cell? _ _ qq0
                  go_simp
                  try (intro h; exfalso; omega)
                try simp only [Act.put, List.setIfInBounds_toArray, List.set_cons_zero, List.set_cons_succ]
                refine wpAnyL_at (i := 11) (v := (.int .i64 (k : Int))) (some 70) rfl rfl (by kernel_rfl) (by kernel_rfl) (by kernel_rfl) (by kernel_rfl) (by decide) (fun _ _ _ h => h) (Or.inl ⟨by rfl, ?_⟩) TS ?_
                · intro w hSw
                  go_simp
                  try (intro h; exfalso; omega)
                try simp only [Act.put, List.setIfInBounds_toArray, List.set_cons_zero, List.set_cons_succ]
                refine wpAnyL_at (i := 12) (v := (ptr gk k)) (some 71) rfl rfl (by kernel_rfl) (by kernel_rfl) (by kernel_rfl) (by kernel_rfl) (by decide) (fun _ _ _ h => h) (Or.inl ⟨by rfl, ?_⟩) TS ?_
                · intro w hSw
                  go_simp
                  try (intro h; exfalso; omega)
                try simp only [Act.put, List.setIfInBounds_toArray, List.set_cons_zero, List.set_cons_succ]
                refine wpAnyL_at (i := 13) (v := (.int .u8 z)) (some 72) rfl rfl (by kernel_rfl) (by kernel_rfl) (by kernel_rfl) (by kernel_rfl) (by decide) (fun _ _ _ h => h) (Or.inl ⟨by rfl, ?_⟩) TS ?_
                · intro w hSw
                  have qq0 := cell_gr kB hSw (fun e => e)
                  have qz := World.block_lt_of_cell? _ _ qq0
                  go_simp
                  try (intro h; exfalso; omega)
                try simp only [Act.put, List.setIfInBounds_toArray, List.set_cons_zero, List.set_cons_succ]
                refine wpAnyL_at (i := 14) (v := (.int .u8 (bits .xor .u8 z 255))) (some 73) rfl rfl (by kernel_rfl) (by kernel_rfl) (by kernel_rfl) (by kernel_rfl) (by decide) (fun _ _ _ h => h) (Or.inl ⟨by rfl, ?_⟩) TS ?_
                · intro w hSw
                  go_simp
                  try (intro h; exfalso; omega)
                try simp only [Act.put, List.setIfInBounds_toArray, List.set_cons_zero, List.set_cons_succ]
                refine wpAnyL_at (i := 15) (v := (ptr gk k)) (some 74) rfl rfl (by kernel_rfl) (by kernel_rfl) (by kernel_rfl) (by kernel_rfl) (by decide) (fun _ _ _ h => h) (Or.inl ⟨by rfl, ?_⟩) TS ?_
                · intro w hSw
                  go_simp
                  try (intro h; exfalso; omega)
                try simp only [Act.put, List.setIfInBounds_toArray, List.set_cons_zero, List.set_cons_succ]
                refine wpAnyL_one (i := 16) (by kernel_rfl) rfl (fun K hK => ?_)
                go_simp
                refine hK.out _ _ (fun h => absurd rfl h) ?_
                clear hK K
                try simp only [Act.put, List.setIfInBounds_toArray, List.set_cons_zero, List.set_cons_succ]
                refine wpAnyL_done (by kernel_rfl) ?_ _
                refine NoPanic.normal ?_
                have gs : Gr (fun z => z = gk) wd (wd.setCell ⟨gk, k, none⟩ (.int .u8 (bits .xor .u8 z 255))) := Gr.set _ _ _ rfl
                have hXF : Hid (BxA C gb (wd.setCell ⟨gk, k, none⟩ (.int .u8 (bits .xor .u8 z 255))) ts ws) := fun k t v q1 q2 => (hXd.out k t v q1 q2).set hd3
                have hGF : Hid (Gr (fun z => gb < z ∧ z < C) w6 (wd.setCell ⟨gk, k, none⟩ (.int .u8 (bits .xor .u8 z 255)))) := hGd.out.trans (gs.mono (fun z _ e => by subst e; exact ⟨h1.out, h2.out⟩))
                clear gs hXd hGd hd3 kB kF kO TS
                go_wp2_with fail
                exact ⟨⟨k + 1, hkl, by go_num, hXF, hGF⟩, by simp [intOf]; omega⟩
              · have hdk : decide ((k : Int) < (t.b.length : Int)) = false := by simp; omega
                go_wp2_with fail
                exact ⟨⟨i + 1, hlt, by go_num, hX, hG⟩, by simp [intOf]; omega⟩
          · have hdi : decide ((i : Int) < (ts.length : Int)) = false := by simp; omega
            have GW : Gr (fun _ => False) W wr := hG6.out.trans' hG.out (fun z hz e => by have := e.1; have := hgW.out; have := Hwn.out; omega)
            have hrepF : Rep (fun z => C ≤ z) wr (telR r).1 (trv pk ps pn (.slice a1 n1 c1) (.slice a2 n2 c2)) := hR6.out.turn (fun z hz hl => ⟨hz, hG.out.block z hl (fun e => by have h6 : C ≤ z := hz; omega)⟩)
            have hA' := hG.out.keep hA.out (fun e => by have := hwr5.out; omega)
            have hcall := Lib.hid (hpr2.out wr GW)
            replace GW := Lib.hid GW
            clear hpr2 hX hG hX6 hR6 hG6 hCp6
            go_wp2_with fail
            refine hcall.out.mono ?_
            intro e w9 h9
            obtain ⟨uk, us, un, b1, m1, d1, b2, m2, d2, rfl, rep9, g9⟩ := h9.told2
            clear h9 hcall
            have gB := Gr.alloc w9 (.cells #[.int .i64 uk, .string us, .int .i64 un, .slice b1 m1 d1, .slice b2 m2 d2] 30) (fun _ => False)
            have r1' : Rep (fun z => z < (w9.alloc (.cells #[.int .i64 uk, .string us, .int .i64 un, .slice b1 m1 d1, .slice b2 m2 d2] 30)).heap.size) _ _ _ := hrepF.turn (fun z hz hl => ⟨Nat.lt_of_lt_of_le hl (Nat.le_trans g9.size gB.size), (gB.block z (Nat.lt_of_lt_of_le hl g9.size) (fun e => e)).trans (g9.block z hl (fun e => e))⟩)
            have r2' : Rep (fun z => z < (w9.alloc (.cells #[.int .i64 uk, .string us, .int .i64 un, .slice b1 m1 d1, .slice b2 m2 d2] 30)).heap.size) _ _ _ := rep9.turn (fun z hz hl => ⟨Nat.lt_of_lt_of_le hl gB.size, gB.block z hl (fun e => e)⟩)
            have hsame := Lib.hid (same_c _ _ _ _ _ r1' r2' (Nat.le_refl _))
            have GF := Lib.hid ((GW.out.trans g9).trans gB)
            have hA9 := g9.keep hA' (fun e => e)
            have htl : tb < w9.heap.size := (Array.getElem?_eq_some_iff.1 hA9).1
            obtain ⟨⟨x0, x1, x2, x3, x4⟩, _⟩ := five_cells hA9
            generalize (telR r).2.1 = i0
            generalize (telR r).2.2 = i1
            have hn1 : tb ≠ w9.heap.size := by omega
            have hn2 : tb < w9.heap.size + 1 := by omega
            clear rep9 r1' r2' hA9 gB g9 hrepF hA'
            go_wp2_with fail
            refine hsame.out.mono ?_
            rintro e w7 ⟨rfl, g7⟩
            have G7 := Lib.hid (GF.out.trans g7)
            clear g7 x0 x1 x2 x3 x4
            have e0' : (i0 == i0) = true := by simp
            have e1' : (i1 == i1) = true := by simp
            go_wp2_with fail
            go_ret
            exact ⟨rfl, G7.out⟩
end Go.Proofs.YtggkjkkbkpnkiaaGreatDoor
