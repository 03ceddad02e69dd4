/-
  Carried over from another seat of ours (I).
-/
import Derived.Test.YtggkjkkbkpnkiaaGreatDoorP
import Derived.OwnWalk
set_option linter.unusedVariables false
set_option linter.unusedSimpArgs false
namespace Go.Proofs.YtggkjkkbkpnkiaaGreatDoor
open Go.RowKit Go.Maps

/-- The cells of a token, its bytes in a row. -/
abbrev tkc (t : Tok) (v : Value) : List Value := [.int .i64 t.k, .string t.s, .int .i64 t.n, v, .int .i64 (t.at' : Int)]
def tkcs : List Tok → List Value → List Value
  | t :: ts, v :: vs => tkc t v ++ tkcs ts vs
  | _, _ => []
theorem tkcs_app : ∀ (ts : List Tok) (vs : List Value) (t : Tok) (v : Value), vs.length = ts.length → tkcs (ts ++ [t]) (vs ++ [v]) = tkcs ts vs ++ tkc t v
  | [], [], t, v, _ => by simp [tkcs]
  | a :: ts, b :: vs, t, v, h => by
    have := tkcs_app ts vs t v (by simpa using h)
    simp only [List.cons_append, tkcs, this, List.append_assoc]
/-- The bytes of a token in a row that lies behind base. -/
def Bq (W : World) (base : Nat) (t : Tok) (v : Value) : Prop := (∃ a c, v = .slice a t.b.length c) ∧ W.ownsRow base 5 1 v t.b.length (t.b.map (Value.int .u8))
def Bqs (W : World) (base : Nat) : List Tok → List Value → Prop
  | [], [] => True
  | t :: ts, v :: vs => Bq W base t v ∧ Bqs W base ts vs
  | _, _ => False
theorem Bqs.len {W : World} {base : Nat} : ∀ {ts : List Tok} {vs : List Value}, Bqs W base ts vs → vs.length = ts.length
  | [], [], _ => rfl
  | t :: ts, v :: vs, h => by simp [h.2.len]
  | [], _ :: _, h => h.elim
  | _ :: _, [], h => h.elim
theorem Bqs.app {W : World} {base : Nat} {t : Tok} {v : Value} (hb : Bq W base t v) : ∀ {ts : List Tok} {vs : List Value}, Bqs W base ts vs → Bqs W base (ts ++ [t]) (vs ++ [v])
  | [], [], _ => ⟨hb, trivial⟩
  | a :: ts, b :: vs, h => ⟨h.1, h.2.app hb⟩
  | [], _ :: _, h => h.elim
  | _ :: _, [], h => h.elim
theorem Bqs.imp {W W' : World} {base base' : Nat} (hf : ∀ t v, Bq W base t v → Bq W' base' t v) : ∀ {ts : List Tok} {vs : List Value}, Bqs W base ts vs → Bqs W' base' ts vs
  | [], [], _ => trivial
  | a :: ts, b :: vs, h => ⟨hf _ _ h.1, h.2.imp hf⟩
  | [], _ :: _, h => h.elim
  | _ :: _, [], h => h.elim
/-- A row of tokens, and the rows of their bytes. -/
def Toks (W : World) (base : Nat) (sv : Value) (ts : List Tok) (vs : List Value) : Prop := W.ownsRow base 27 5 sv ts.length (tkcs ts vs) ∧ Bqs W base ts vs
theorem Toks.gr {S : Nat → Prop} {W W' : World} {base : Nat} {sv : Value} {ts : List Tok} {vs : List Value} (h : Toks W base sv ts vs) (g : Gr S W W') (hs : ∀ k, base ≤ k → ¬ S k) : Toks W' base sv ts vs :=
  ⟨ownsRow_gr h.1 g hs, h.2.imp (fun t v hb => ⟨hb.1, ownsRow_gr hb.2 g hs⟩)⟩
theorem Toks.base {W : World} {base base' : Nat} {sv : Value} {ts : List Tok} {vs : List Value} (h : Toks W base sv ts vs) (hb : base' ≤ base) : Toks W base' sv ts vs :=
  ⟨ownsRow_base h.1 hb, h.2.imp (fun t v hq => ⟨hq.1, ownsRow_base hq.2 hb⟩)⟩
/-- Rows of unlike elements lie apart. -/
theorem ownsRow_apart {W : World} {base base' : Nat} {e e' : TypeId} {size size' : Nat} {v v' : Value} {n n' : Nat} {xs xs' : List Value} (h : W.ownsRow base e size v n xs) (h' : W.ownsRow base' e' size' v' n' xs') (hne : e ≠ e') (k : Nat) (hk : v.ownBlock = some k) (hk' : v'.ownBlock = some k) : False := by
  rcases h.2 with ⟨rfl, _⟩ | ⟨g, cap, cur, rfl, hg, h2, h3⟩
  · cases hk
  · rcases h'.2 with ⟨rfl, _⟩ | ⟨g', cap', cur', rfl, hg', h2', h3'⟩
    · cases hk'
    · cases hk; cases hk'
      rw [h2] at h2'
      cases h2'
      exact hne rfl
/-- One row has grown: rows of unlike elements are as they were. -/
theorem Toks.grown {W W' : World} {base : Nat} {sv sv' : Value} {ts : List Tok} {vs : List Value} {t : Tok} {v : Value} (h : Toks W base sv ts vs) (hb : Bq W base t v) (hg : W.grownBy W' sv.ownBlock)
    (hr : W'.ownsRow base 27 5 sv' (ts.length + 1) (tkcs ts vs ++ tkc t v)) : Toks W' base sv' (ts ++ [t]) (vs ++ [v]) := by
  have hG : Gr (fun k => sv.ownBlock = some k) W W' := Gr.of_grown hg (fun k e => e)
  have keep : ∀ t v, Bq W base t v → Bq W' base t v := fun t v hq => ⟨hq.1, ownsRow_of_block hq.2 (fun k h1 h2 => hG.block k (ownsRow_lt hq.2 k h2).2 (fun e => ownsRow_apart h.1 hq.2 (by decide) k e h2))⟩
  refine ⟨?_, (h.2.imp keep).app (keep _ _ hb)⟩
  rw [tkcs_app ts vs t v h.2.len]
  simpa using hr

theorem cell_five_new (w : World) (x0 x1 x2 x3 x4 : Value) (t : TypeId) : ∀ j u, [x0, x1, x2, x3, x4][j]? = some u → (w.alloc (.cells #[x0, x1, x2, x3, x4] t)).cell? ((⟨w.heap.size, 0, none⟩ : Addr).add j) = some u := by
  intro j u hj
  have hadd : (⟨w.heap.size, 0, none⟩ : Addr).add j = ⟨w.heap.size, j, none⟩ := by unfold Addr.add; split <;> simp_all
  rw [hadd, cell_of_row _ _ j _ t (0, 0) (heap_alloc_new w _)]
  simpa using hj

theorem info33 : (Tryz.prog.info? 27).map (fun i => (i.zero, i.size, i.bytes)) = some (some (.agg #[.int .i64 0, .string ⟨#[]⟩, .int .i64 0, .slice none 0 0, .int .i64 0]), 5, 64) := by kernel_rfl

/-- How Scan ends. -/
def EndS (W : World) (e : Ending) (w' : World) : Except (Nat × Int) (List Tok) → Prop
  | .ok l => ∃ sv vs, e = .returned (.tuple #[sv, .int .i64 0, .int .i64 0]) ∧ Toks w' W.heap.size sv l vs ∧ Gr (fun _ => False) W w'
  | .error (i, c) => e = .returned (.tuple #[nl, .int .i64 (i : Int), .int .i64 c]) ∧ Gr (fun _ => False) W w'

set_option maxRecDepth 100000 in
set_option maxHeartbeats 4000000 in
theorem scan_c (W : World) (s : ByteArray) (hE : Er W) (hS : Sg W) :
    Calls Tryz.prog 10 #[.string s] W fun e w' => EndS W e w' (scanV s) := by
  by_cases hlong : 16384 < s.size
  · rw [scanV, if_pos hlong]
    have hI : 16384 < (s.size : Int) := by omega
    clear hlong
    go_enter Tryz.func10, Tryz.ntmps10
    go_wp2_with fail
    go_ret3
    exact ⟨rfl, Gr.refl _ _⟩
  have hI : (s.size : Int) ≤ 16384 := by omega
  obtain ⟨r, hr⟩ : ∃ r, r = scanV s := ⟨_, rfl⟩
  rw [← hr]
  rw [scanV, if_neg hlong] at hr
  have Hr := Lib.hid hr
  have hs : Hid (s.size ≤ 16384) := Nat.not_lt.1 hlong
  clear hr hlong
  obtain ⟨i0, hi0, hz0, hz1, hz2⟩ := info_parts info33
  go_enter Tryz.func10, Tryz.ntmps10
  go_wp2_with fail
  generalize hW1 : W.alloc _ = w1
  have hR1 : Rd w1 W.heap.size s 0 := hW1 ▸ heap_alloc_new W _
  have hg1 : Gr (fun _ => False) W w1 := hW1 ▸ Gr.alloc _ _ _
  have hz1' : w1.heap.size = W.heap.size + 1 := by rw [← hW1]; simp
  have hl4 := hE.lt
  have hn4 : W.heap.size ≠ 3 := by omega
  have hn0 : W.heap.size ≠ 0 := by omega
  have hE1 := hE.gr hg1 (fun e => e)
  have hS1 := hS.gr hg1 (fun e => e)
  have hbs : Hid (W.heap.size ≤ W.heap.size + 1) := by show _ ≤ _; omega
  clear hW1 hl4 hE hS
  have hfin : Hid (∀ w', Gr (fun k => W.heap.size ≤ k) W w' → Gr (fun _ => False) W w') := fun w' g => g.mono (fun j hj e => by omega)
  have hgW1 : Hid (Gr (fun k => W.heap.size ≤ k) W w1) := hg1.any _
  obtain ⟨b, hb⟩ : ∃ b, W.heap.size = b := ⟨_, rfl⟩
  have Hb := Lib.hid hb
  rw [hb] at hR1 hz1' hn4 hn0 hbs hfin hgW1 ⊢
  clear hb hg1
  have hz1H := Lib.hid hz1'
  clear hz1'
  have hkeep : Hid (∀ w', Gr (fun k => k = b) w1 w' → Er w' ∧ Sg w') := fun w' g => ⟨hE1.gr g (fun e => hn4 e.symm), hS1.gr g (fun e => hn0 e.symm)⟩
  clear hE1 hS1
  refine (skip_c w1 b s 0 hR1 (by have := hs.out; omega) (Nat.zero_le _)).mono ?_
  rintro e w2 ⟨rfl, hs2⟩
  go_wp2_with fail
  go_loopw [6] (fun u wr => ∃ (ts : List Tok) (vs : List Value) (i f : Nat), Hid (s.size < f + i) ∧ Hid (i ≤ s.size) ∧ Hid (ts.length ≤ 4000) ∧ Hid (r = scn s f i ts) ∧ Hid (Toks wr (b + 1) u ts vs) ∧ St w1 b s wr i) (fun _ wr => s.size - atOf wr b)
  case atStart => exact ⟨[], [], skp s 0 false, s.size + 1, by show _ < _; omega, skp_le false (Nat.zero_le _), by show _ ≤ _; simp, Hr.out, ⟨World.ownsRow_nil _ _ _ _, trivial⟩, hs2⟩
  case round =>
    obtain ⟨ts, vs, i, f, hf, hi, hl, Hq, hT, hst⟩ := hrel
    have Hat := Lib.hid hst.1.atOf
    obtain ⟨c0, c1, f0, f1⟩ := hst.1.facts
    have hbl := hst.1.lt
    obtain ⟨sa, sc, rfl⟩ := ownsRow_sv hT.out.1
    clear hs2
    obtain ⟨f, rfl⟩ : ∃ g, f = g + 1 := ⟨f - 1, by have := hf.out; have := hi.out; omega⟩
    by_cases hlt : i < s.size
    · have h1 : (i : Int) < (s.size : Int) := by omega
      by_cases hfull : ts.length = 4000
      · have e : r = .error (i, 155) := by rw [Hq.out, scn, if_pos hlt, if_pos hfull]
        have h2 : (((ts.length : Nat) : Int) == 4000) = true := by rw [hfull]; rfl
        subst e
        clear hfull
        go_wp2_with fail
        go_ret3
        exact ⟨rfl, hfin.out _ (hgW1.out.trans (hst.2.mono (fun k _ e => by omega)))⟩
      · have h2 : (((ts.length : Nat) : Int) == 4000) = false := by simp; omega
        have he : Hid (r = match tokV s i with | .error c => .error (i, c) | .ok (t, j) => scn s f (skp s j false) (ts ++ [t])) := by
          show r = _
          rw [Hq.out, scn, if_pos hlt, if_neg hfull]
          rfl
        have hl2 : Hid (ts.length < 4000) := by have := hl.out; show _ < _; omega
        clear hfull
        have ht := fun w h hE hS hb => token_c w (b + 1) b s i h (by have := hs.out; omega) hlt hE hS hn4 hn0 hb
        have hok := @tokV_ok s i
        have her := @tokV_err s i
        generalize tokV s i = q at ht he hok her
        obtain ⟨kE, kS⟩ := hkeep.out wr hst.2
        rcases q with c | ⟨t, j⟩
        · have e : r = .error (i, c) := he.out
          subst e
          have hc := her rfl
          have h3 : (c != 0) = true := by rw [bne_iff_ne]; omega
          clear her hok hc
          go_wp2_with fail
          refine (ht wr hst.1 kE kS (by have := hst.2.size; have := hz1H.out; omega)).mono ?_
          rintro e w3 ⟨⟨k, tt, n, i', rfl⟩, hg3⟩
          go_wp2_with fail
          go_ret3
          exact ⟨rfl, hfin.out _ ((hgW1.out.trans ((hst.2.trans hg3).mono (fun k _ e => by omega))).trans (Gr.alloc _ _ _))⟩
        · obtain ⟨o1, o2, o3, o4⟩ := hok hlt rfl
          clear her hok o3 o4
          go_wp2_with fail
          refine (ht wr hst.1 kE kS (by have := hst.2.size; have := hz1H.out; omega)).mono ?_
          rintro e w3 ⟨ba, bc, rfl, hrow3, hs3⟩
          have hT3 := hT.out.gr hs3.2 (fun k h1 h2 => by omega)
          have hsz3 : b + 1 ≤ w3.heap.size := by have := (hst.2.trans hs3.2).size; have := hz1H.out; omega
          have hB3 : Bq w3 (b + 1) t (.slice ba t.b.length bc) := ⟨⟨_, _, rfl⟩, hrow3⟩
          have hl3 : ts.length < 4000 := hl2.out
          replace hl3 := Lib.hid hl3
          have G3 : Hid (Gr (fun k => k = b) w1 w3) := hst.2.trans hs3.2
          have R3 := Lib.hid hs3.1
          replace hT3 := Lib.hid hT3
          replace hB3 := Lib.hid hB3
          replace hsz3 := Lib.hid hsz3
          clear hrow3 hs3 c0 c1 f0 f1 hT
          go_wp2_with (first
            | (at_builtin; generalize hX : World.alloc w3 _ = X; have hxs : w3.heap.size + 1 = X.heap.size := (by rw [← hX]; simp); have gX : Gr (fun _ => False) w3 X := hX ▸ Gr.alloc _ _ _; rw [hxs]; clear hX hxs; have TX := hT3.out.gr gX (fun _ _ e => e); have BX : Bq X (b + 1) t (.slice ba t.b.length bc) := ⟨hB3.out.1, ownsRow_gr hB3.out.2 gX (fun _ _ e => e)⟩; refine wpList_own _ rfl 22 _ _ rfl (b + 1) 27 i0 _ 5 64 Tryz.underlying22 hi0 hz0 hz1 hz2 rfl (by decide) (.slice sa ts.length sc) ts.length (tkcs ts vs) ⟨X.heap.size, 0, none⟩ 1 1 (tkc t (.slice ba t.b.length bc)) rfl rfl (TX.1.alloc _) rfl (cell_five_new _ _ _ _ _ _ _) (by simp [Value.oneCell']) (by unfold maxLen; have := hl3.out; omega) (by have := hl3.out; omega) (by have := hsz3.out; have := gX.size; simp; omega) ?_; intro v' w5 hrow5 hgr5)
            | fail)
          have T5 : Hid (Toks w5 (b + 1) v' (ts ++ [t]) (vs ++ [.slice ba t.b.length bc])) := (TX.gr (Gr.alloc X _ (fun _ => False)) (fun _ _ e => e)).grown ⟨BX.1, ownsRow_gr BX.2 (Gr.alloc X _ (fun _ => False)) (fun _ _ e => e)⟩ hgr5 hrow5
          have G35 : Gr (fun k => b + 1 ≤ k) w3 w5 := ((gX.any _).trans (Gr.alloc X _ _)).trans (Gr.of_grown hgr5 (fun k e => (ownsRow_lt TX.1 k e).1))
          have R5 := R3.out.gr G35 (by omega)
          have S5 : St w1 b s w5 j := ⟨R5, G3.out.trans' G35 (fun k hk h => by have := hz1H.out; omega)⟩
          refine (skip_c w5 b s j R5 (by have := hs.out; omega) o2).mono ?_
          rintro e w6 ⟨rfl, hs6⟩
          have S6 := S5.trans hs6
          have T6 : Hid (Toks w6 (b + 1) v' (ts ++ [t]) (vs ++ [.slice ba t.b.length bc])) := T5.out.gr hs6.2 (fun k h1 h2 => by omega)
          have n1 := skp_ge s j false
          have n2 := skp_le (s := s) (i := j) false o2
          have n3 : Hid (s.size < f + skp s j false) := by have := hf.out; show _ < _; omega
          have n4 : Hid ((ts ++ [t]).length ≤ 4000) := by have := hl3.out; show _ ≤ _; simp; omega
          have n5 : Hid (r = scn s f (skp s j false) (ts ++ [t])) := he.out
          have n6 : s.size - atOf w6 b < s.size - atOf wr b := by rw [S6.1.atOf, Hat.out]; omega
          replace n6 := Lib.hid n6
          clear n1 TX BX gX hrow5 hgr5
          go_wp2_with fail
          exact ⟨⟨ts ++ [t], vs ++ [.slice ba t.b.length bc], skp s j false, f, n3, n2, n4, n5, T6, S6⟩, n6.out⟩
    · have h1 : decide ((i : Int) < (s.size : Int)) = false := by simp; omega
      have e : r = .ok ts := by rw [Hq.out, scn, if_neg hlt]
      subst e
      go_wp2_with fail
      go_ret3
      exact ⟨_, vs, rfl, by rw [Hb.out]; exact hT.out.base (by omega), hfin.out _ (hgW1.out.trans (hst.2.mono (fun k _ e => by omega)))⟩
end Go.Proofs.YtggkjkkbkpnkiaaGreatDoor



