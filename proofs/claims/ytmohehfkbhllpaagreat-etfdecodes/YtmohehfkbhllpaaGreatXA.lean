/-
  Carried over from another seat of ours (XA).
  Carried over from another seat of ours (XB).
  Carried over from another seat of ours (XC).
-/
import Derived.Test.YtmohehfkbhllpaaGreatMC
import Derived.Defers
import Derived.Recover
import Derived.Laws.Pointers
import Derived.Test.YtmohehfkbhllpaaGreatKY
set_option linter.unusedVariables false
set_option linter.unusedSimpArgs false
namespace Go.Proofs.YtmohehfkbhllpaaGreat
open Go.RowKit Go.Maps

theorem ta_nil (w : World) : (Instr.typeAssert .nilIface 20 32 true).run Tryz.prog w = .ok (.tuple #[.int .i64 0, .bool false]) w := by kernel_rfl
theorem ta_err (w : World) (c : Int) : (Instr.typeAssert (.iface 32 (.int .i64 c)) 20 32 true).run Tryz.prog w = .ok (.tuple #[.int .i64 c, .bool true]) w := by kernel_rfl

/-- What recover hands back, and the frames behind it. -/
def recd (cs : List Frame) : Value × List Frame := (recoverD cs).getD (.nilIface, cs)
/-- A region whose first operation recovers. -/
theorem wpS_region_rec {P : Program} {Q : Exit → Act → List Frame → World → Prop} {a : Act} {cs : List Frame} {w : World} {id : Nat} {ops : Array Oper} {o : Oper} {l : List Oper} (hops : ops = (o :: l).toArray)
    (hw : Region.wanted o (yielded ops a.tmps) = true) (hr : (execOp a.eval o).run P w = .ok .recover w)
    (h : wpList P ops (fun e a' w' => Q e a' (recd cs).2 w') l (a.put o.dst (recd cs).1) w) : (Code.region id ops false).wpS P Q a cs w := by
  intro b k hb hro
  have ho : ops[0]? = some o := by rw [hops]; rfl
  have hl : ∀ j, l[j]? = ops[1 + j]? := fun j => by rw [hops, Nat.add_comm 1 j]; simp
  have hrange : List.range ops.size = 0 :: List.range' 1 l.length := by
    rw [hops]; simp [List.range_eq_range', List.range'_succ]
  have h1 : wpOps P ops (fun e a' w' => Q e a' (recd cs).2 w') (List.range' 1 l.length) (a.put o.dst (recd cs).1) w := by rw [wpOps_eq_wpList l 1 hl]; exact h
  obtain ⟨e, a', w', hq, harr⟩ := wp_ops _ _ _ h1 b k (recd cs).2
  have hs0 := step_region (P := P) (b := b) (a := a) (k := k) (cs := cs) (w := w) (ops := ops) (id := id)
  rw [hrange] at hs0
  have hg := stepG_op (P := P) (b := b) (k := k) (cs := cs) (w := w) (rest := List.range' 1 l.length) ho hw
  have hfin : ∀ v, (b.at a (.inRegion ops (0 :: List.range' 1 l.length) :: k)).finish v = b.at (a.put o.dst v) (.inRegion ops (List.range' 1 l.length) :: k) := by
    intro v; rw [Frame.finish_at, ho]; rfl
  have hk : (b.at a (.inRegion ops (0 :: List.range' 1 l.length) :: k)).kind = .deferred := hb
  have htr := tryRecover_deferred hk cs
  refine ⟨e, a', (recd cs).2, w', hq, .of_steps (.head hs0 (.one (step_lone_go ?_))) harr⟩
  rw [hg, ← hfin]
  simp only [Frame.at] at htr ⊢
  unfold recd
  cases hrec : recoverD cs with
  | none => simp [stepG.apply, hr, htr, hrec]
  | some x => obtain ⟨v, cs'⟩ := x; simp [stepG.apply, hr, htr, hrec]

set_option maxRecDepth 100000 in
set_option maxHeartbeats 400000 in
theorem catch_idle (p q : Nat) (w : World) :
    CallsD Tryz.prog 11 #[pt p, pt q] .returning w fun e u' w' => e = .returned (.tuple #[]) ∧ u' = .returning ∧ Gr (fun _ => False) w w' := by
  have h1 := ta_nil
  refine callsD_of_wpS Tryz.func11 rfl fun c₀ cs hu => ?_
  have hrec : recd (c₀ :: cs) = (.nilIface, c₀ :: cs) := by simp [recd, recoverD, hu]
  apply wpS_seq
  refine wpS_region_rec rfl (by rfl) (by rfl) ?_
  rw [hrec]
  simp only [Tryz.ntmps11, List.size_toArray, List.length_cons, List.length_nil, Nat.reduceAdd, Nat.reduceSub, Array.replicate_succ, Array.replicate_zero, List.push_toArray, List.append_toArray, List.nil_append, List.cons_append]
  go_wp2
  refine (wpS_of_wp ?_ : Code.wpS _ _ _ _ _ _)
  go_wp2
  cases c₀
  simp only at hu
  subst hu
  exact ⟨rfl, _, rfl, _, results_none rfl _ _ _, rfl, rfl, Gr.refl _ _⟩

set_option maxRecDepth 100000 in
set_option maxHeartbeats 1600000 in
theorem catch_thrown (p q : Nat) (c : Int) (w : World) (hp : Bx w p 0 0 0 0 e0 0 0 0 nl nl) (hq : w.heap[q]? = some (.cells #[.int .i64 0] 32 (0, 0))) :
    CallsD Tryz.prog 11 #[pt p, pt q] (.panicking [{ v := .iface 32 (.int .i64 c), recovered := false }]) w fun e u' w' => e = .returned (.tuple #[]) ∧ u' = .panicking [{ v := .iface 32 (.int .i64 c), recovered := true }] ∧
      Bx w' p 0 0 0 0 e0 0 0 0 nl nl ∧ w'.heap[q]? = some (.cells #[.int .i64 c] 32 (0, 0)) ∧ Gr (fun k => k = p ∨ k = q) w w' := by
  have h1 := fun w => ta_err w c
  have hpq : p ≠ q := by intro e; subst e; unfold Bx at hp; rw [hp] at hq; simp at hq
  refine callsD_of_wpS Tryz.func11 rfl fun c₀ cs hu => ?_
  have hrec : recd (c₀ :: cs) = (.iface 32 (.int .i64 c), { c₀ with mode := .panicking [{ v := .iface 32 (.int .i64 c), recovered := true }] } :: cs) := by simp [recd, recoverD, hu]
  apply wpS_seq
  refine wpS_region_rec rfl (by rfl) (by rfl) ?_
  rw [hrec]
  simp only [Tryz.ntmps11, List.size_toArray, List.length_cons, List.length_nil, Nat.reduceAdd, Nat.reduceSub, Array.replicate_succ, Array.replicate_zero, List.push_toArray, List.append_toArray, List.nil_append, List.cons_append]
  obtain ⟨s9, g9⟩ := hp.set9 0 0 0 0 e0 0 0 0 nl nl
  have hlp := hp.lt
  have hlq := (Array.getElem?_eq_some_iff.1 hq).1
  have hxf := hp.facts
  have z0 := hp.froz 0 (by decide)
  have z1 := hp.froz 1 (by decide)
  have z2 := hp.froz 2 (by decide)
  have z3 := hp.froz 3 (by decide)
  have z4 := hp.froz 4 (by decide)
  have z5 := hp.froz 5 (by decide)
  have z6 := hp.froz 6 (by decide)
  have z7 := hp.froz 7 (by decide)
  have z8 := hp.froz 8 (by decide)
  obtain ⟨q1, q2⟩ := cell_of hq
  have S9 := Lib.hid s9
  have G9 := Lib.hid g9
  have Hq := Lib.hid hq
  have hqp : ¬ q = p := fun e => hpq e.symm
  clear s9 g9 hp hq
  go_wp2
  refine (wpS_of_wp ?_ : Code.wpS _ _ _ _ _ _)
  go_wp2
  generalize World.setCell (World.setCell (World.setCell (World.setCell (World.setCell (World.setCell (World.setCell (World.setCell (World.setCell w _ _) _ _) _ _) _ _) _ _) _ _) _ _) _ _) _ _ = wa at S9 G9 ⊢
  have gq : Gr (fun i => i = q) wa (wa.setCell ⟨q, 0, none⟩ (.int .i64 c)) := Gr.set (S := fun i => i = q) wa ⟨q, 0, none⟩ _ rfl
  exact ⟨rfl, _, rfl, _, results_none rfl _ _ _, rfl, rfl, S9.out.gr gq hpq, heap_setCell_same wa q 0 _ 32 _ (G9.out.keep Hq.out hqp), (G9.out.mono (fun _ _ e => .inl e)).trans (gq.mono (fun _ _ e => .inr e))⟩
end Go.Proofs.YtmohehfkbhllpaaGreat


namespace Go.Proofs.YtmohehfkbhllpaaGreat
open Go.RowKit Go.Maps
variable {Z F F0 : Nat → Prop} {W W' : World}

theorem decV_long {m : List Int} (h : 131072 < m.length) : decV m = .error 70 := by unfold decV; rw [if_pos h]
theorem decV_mark {c : Int} {m : List Int} (h : ¬ 131072 < (c :: m).length) (hc : ¬ c = 69) : decV (c :: m) = .error 71 := by unfold decV; rw [if_neg h]; simp only; rw [if_neg hc]
theorem decV_ok {m : List Int} (h : ¬ 131072 < ((69 : Int) :: m).length) : decV (69 :: m) = beg [] m 0 [] := by
  unfold decV beg
  rw [if_neg h]
  simp only [if_true, List.length_nil, Nat.sub_zero]
  generalize ptq _ _ _ _ = q
  rcases q with _ | ⟨_, _, _, _⟩ <;> rfl

set_option maxRecDepth 100000 in
set_option maxHeartbeats 400000 in
theorem dec_long (v : Value) (m : List Int) (hq : Sq Z W v m) (h : 131072 < m.length) : Calls Tryz.prog 5 #[v] W fun e w' => EndV W e w' (decV m) := by
  rw [decV_long h]
  obtain ⟨qa, qc, rfl, -⟩ := hq
  have hI : (131072 : Int) < (m.length : Int) := by omega
  clear h
  go_enter_defers Tryz.func5, Tryz.ntmps5
  go_wp2
  exact ⟨.tuple #[lf 0 0 0 0 e0 0 0 0, .int .i64 70], by simp [results, Tryz.results5, go_sem], rfl, (Gr.alloc _ _ _).trans (Gr.alloc _ _ _)⟩
set_option maxRecDepth 100000 in
set_option maxHeartbeats 400000 in
theorem dec_none (v : Value) (hq : Sq Z W v []) : Calls Tryz.prog 5 #[v] W fun e w' => EndV W e w' (decV []) := by
  rw [show decV [] = .error 72 by rfl]
  obtain ⟨qa, qc, rfl, -⟩ := hq
  go_enter_defers Tryz.func5, Tryz.ntmps5
  go_wp2
  exact ⟨.tuple #[lf 0 0 0 0 e0 0 0 0, .int .i64 72], by simp [results, Tryz.results5, go_sem], rfl, (Gr.alloc _ _ _).trans (Gr.alloc _ _ _)⟩
set_option maxRecDepth 100000 in
set_option maxHeartbeats 400000 in
theorem dec_mark (v : Value) (c : Int) (m : List Int) (hq : Sq Z W v (c :: m)) (h : ¬ 131072 < (c :: m).length) (hc : ¬ c = 69) : Calls Tryz.prog 5 #[v] W fun e w' => EndV W e w' (decV (c :: m)) := by
  rw [decV_mark h hc]
  obtain ⟨qa, qc, rfl, -, -, -, hq⟩ := hq
  obtain ⟨g, o, rfl, -, hq⟩ := hq (by simp)
  have hc0 := hq 0 c (by simp)
  rw [Nat.add_zero] at hc0
  have hgl := World.block_lt_of_cell? _ _ hc0
  obtain ⟨p, hp⟩ : ∃ p, (c :: m).length = p := ⟨_, rfl⟩
  have hp0 : (0 : Int) < (p : Int) := by rw [← hp, List.length_cons]; omega
  have hI : ¬ (131072 : Int) < (p : Int) := by omega
  have hb : (c == 69) = false := by simpa using hc
  rw [hp]
  have hpn : ¬ (p : Int) = 0 := by omega
  clear h hq hp hc
  go_enter_defers Tryz.func5, Tryz.ntmps5
  go_wp2
  exact ⟨.tuple #[lf 0 0 0 0 e0 0 0 0, .int .i64 71], by simp [results, Tryz.results5, go_sem], rfl, (Gr.alloc _ _ _).trans (Gr.alloc _ _ _)⟩

/-- The reader, made. -/
structure Mk (Z : Nat → Prop) (W wr : World) (b tb : Nat) (m : List Int) : Prop where
  rt : Rt Z (fun k => k = tb) wr b 0 tb m []
  gr : Gr (fun _ => False) W wr
  hb : W.heap.size + 2 ≤ b
  ht : W.heap.size + 2 ≤ tb
  lt : tb < wr.heap.size
  res : Bx wr W.heap.size 0 0 0 0 e0 0 0 0 nl nl
  err : wr.heap[W.heap.size + 1]? = some (.cells #[.int .i64 0] 32 (0, 0))
theorem mk_of {W W1 wr : World} {b tb : Nat} {lv : Value} {m : List Int} (hZ : ∀ k, Z k → k < W.heap.size) (hd : Sq Z W lv m) (hg1 : Gr (fun _ => False) W W1) (hT1 : Bx W1 W.heap.size 0 0 0 0 e0 0 0 0 nl nl) (hE1 : W1.heap[W.heap.size + 1]? = some (.cells #[.int .i64 0] 32 (0, 0)))
    (gA : Gr (fun _ => False) W1 wr) (hB : wr.heap[b]? = some (.cells #[lv, .int .i64 0, pt tb] 47 (0, 0))) (htab : Tab wr tb none (.slice none 0 0) []) (hb : W.heap.size + 2 ≤ b) (ht : W.heap.size + 2 ≤ tb) (hne : b ≠ tb) : Mk Z W wr b tb m := by
  have g := hg1.trans gA
  refine ⟨⟨⟨lv, hB, hd.gr g (fun _ _ e => e), fun e => by have := hZ _ e; omega⟩, ⟨none, .slice none 0 0, htab, fun k e => ?_⟩, hne, fun k hk e => by have := hZ k hk; omega, fun k hk => Nat.lt_of_lt_of_le (hZ k hk) g.size⟩, g, hb, ht, (Array.getElem?_eq_some_iff.1 htab.blk).1, hT1.gr gA (fun e => e), gA.keep hE1 (fun e => e)⟩
  rcases e with rfl | e | e
  · rfl
  · cases e
  · simp [Value.ownBlock] at e
theorem Mk.nb {W wr : World} {b tb : Nat} {m : List Int} (h : Mk Z W wr b tb m) {i : Nat} (hi : i < W.heap.size + 2) : ¬ (i = b ∨ (fun k => k = tb) i) := by
  have h1 := h.hb
  have h2 := h.ht
  rintro (e | e)
  · omega
  · have e : i = tb := e
    omega
theorem mk_call {W wr : World} {b tb : Nat} {m : List Int} {r : Except Int Tm} (h : Mk Z W wr b tb m) (hr : r = beg [] m 0 []) : Calls Tryz.prog 13 #[pt b] wr fun e w' => EndWh (fun k => k = tb) wr b e w' r := by
  subst hr
  exact whole_c b tb m h.rt (fun k hk => by have := h.lt; subst hk; exact this)

set_option maxRecDepth 100000 in
set_option maxHeartbeats 800000 in
theorem dec_go2 (r : Except Int Tm) (m : List Int) (hr : Hid (r = beg [] m 0 [])) (g o p qc : Nat) (hZ : ∀ k, Z k → k < W.heap.size) (hc0 : W.cell? ⟨g, o, none⟩ = some (.int .u8 69)) (hp1 : (1 : Int) ≤ (p : Int)) (hI : ¬ (131072 : Int) < (p : Int)) (hqc : p ≤ qc) (hqc2 : qc ≤ 9223372036854775807) (hq1 : ¬ qc = 1)
    (hd : Sq Z W (.slice (some ⟨g, o + 1, none⟩) (p - 1) (qc - 1)) m) : Calls Tryz.prog 5 #[.slice (some ⟨g, o, none⟩) p qc] W fun e w' => EndV W e w' r := by
  have hmf : ∀ (fn : Fn) (first cap : Array Value) (w : World), (Instr.makeFunc fn first cap).run Tryz.prog w = .ok (.func fn first cap) w := fun _ _ _ _ => rfl
  have hgl := World.block_lt_of_cell? _ _ hc0
  have hp0 : (0 : Int) < (p : Int) := by omega
  have hpn : ¬ (p : Int) = 0 := by omega
  replace hd := Lib.hid hd
  go_enter_defers Tryz.func5, Tryz.ntmps5
  go_wp2_with fail
  generalize hW1 : World.alloc (World.alloc W _) _ = W1
  have hg1 : Gr (fun _ => False) W W1 := hW1 ▸ (Gr.alloc _ _ _).trans (Gr.alloc _ _ _)
  have hT1 : Bx W1 W.heap.size 0 0 0 0 e0 0 0 0 nl nl := by
    subst hW1; simp only [Bx, al, World.size_alloc]; repeat (first | rw [if_pos trivial] | rw [if_pos (by omega)] | rw [if_neg (by omega)])
  have hE1 : W1.heap[W.heap.size + 1]? = some (.cells #[.int .i64 0] 32 (0, 0)) := by
    subst hW1; simp only [al, World.size_alloc]; repeat (first | rw [if_pos trivial] | rw [if_pos (by omega)] | rw [if_neg (by omega)])
  have hs1 : W1.heap.size = W.heap.size + 2 := by rw [← hW1]; simp
  clear hW1
  refine wp_mono (Q := Exit.then _ (fun _ _ _ => False)) ?_ thenF_le
  have hN1 : (World.drew (World.alloc W1 (.cells #[.slice none 0 0, .int .i64 0, .pointer none] 47))).heap[W.heap.size + 2]? = some (.cells #[.slice none 0 0, .int .i64 0, .pointer none] 47 (0, 0)) := by
    have := heap_alloc_new W1 (.cells #[.slice none 0 0, .int .i64 0, .pointer none] 47)
    rw [hs1] at this
    exact this
  replace hN1 := Lib.hid hN1
  go_region_with (first
    | (go_at_call 12; with_reducible refine (new_c (World.drew (World.alloc W1 (.cells #[.slice none 0 0, .int .i64 0, .pointer none] 47)))).mono ?_; rintro e w3 ⟨rfl, htab, g3⟩; have hB3 := g3.keep hN1.out (fun e => e); obtain ⟨c0, c1, c2, f0, f1⟩ := three46 hB3; have f2 : w3.frozen? ⟨W.heap.size + 2, 2, none⟩ = false := (by simp [World.frozen?, hB3]); have hl3 : W.heap.size + 2 < w3.heap.size := (Array.getElem?_eq_some_iff.1 hB3).1)
    | (go_at_call 12; with_reducible refine (new_c (World.drew W1)).mono ?_; rintro e w3 ⟨rfl, htab, g3⟩)
    | fail)
  · have gA : Gr (fun _ => False) W1 (w3.alloc (.cells #[.slice (some ⟨g, o + 1, none⟩) (p - 1) (qc - 1), .int .i64 0, pt (W.heap.size + 2)] 47)) := ((Gr.drew W1 _).trans g3).trans (Gr.alloc _ _ _)
    have hs3 : W.heap.size + 2 < w3.heap.size := by have := (Array.getElem?_eq_some_iff.1 htab.blk).1; have e : W1.drew.heap.size = W.heap.size + 2 := hs1; omega
    have htab' : Tab w3 (W.heap.size + 2) none (.slice none 0 0) [] := by have e : W1.drew.heap.size = W.heap.size + 2 := hs1; rwa [e] at htab
    have hM := mk_of hZ hd.out hg1 hT1 hE1 gA (heap_alloc_new w3 _) (htab'.gr (Gr.alloc w3 _ (fun _ => False)) (fun _ _ e => e)) (by omega) (Nat.le_refl _) (by omega)
    generalize w3.alloc _ = wr at hM ⊢
    obtain ⟨b, hb⟩ : ∃ b, b = w3.heap.size := ⟨_, rfl⟩
    rw [← hb] at hM ⊢
    obtain ⟨tb, htb⟩ : ∃ tb, tb = W.heap.size + 2 := ⟨_, rfl⟩
    rw [← htb] at hM
    have hcall := Lib.hid (mk_call hM hr.out)
    have HM := Lib.hid hM
    clear hM gA htab' htab g3 hs1 hT1 hE1 hg1 hd hN1 hb htb hs3
    cases r with
    | error c =>
      go_wp2_with fail
      refine hcall.out.mono ?_
      rintro e w4 ⟨rfl, hg4⟩
      refine leaves_cons (f := 11) (args := #[pt W.heap.size, pt (W.heap.size + 1)]) (by simp) (by simp [go_sem]) ?_
      refine (catch_thrown W.heap.size (W.heap.size + 1) c w4 (HM.out.res.gr hg4 (HM.out.nb (by omega))) (hg4.keep HM.out.err (HM.out.nb (by omega)))).mono ?_
      rintro e u' w5 ⟨rfl, rfl, hT5, hE5, hg5⟩
      obtain ⟨⟨m0, m1, m2, m3, m4, m5, m6, m7, m8⟩, mf⟩ := nine (show w5.heap[W.heap.size]? = _ from hT5)
      obtain ⟨r1, r2⟩ := cell_of hE5
      exact ⟨.tuple #[lf 0 0 0 0 e0 0 0 0, .int .i64 c], by simp [results, Tryz.results5, go_sem, m0, m1, m2, m3, m4, m5, m6, m7, m8, r1], rfl, (HM.out.gr.trans' hg4 (fun i hi e => HM.out.nb (by omega) e)).trans' hg5 (fun i hi e => by omega)⟩
    | ok T =>
      go_wp2_with fail
      refine hcall.out.mono ?_
      rintro e w4 ⟨v, rfl, hrep, hg4⟩
      obtain ⟨tk, tn, tx, ty, ts, ta, tc, td, a1, n1, c1, a2, n2, c2, rfl⟩ := hrep.agg
      have hT4 := HM.out.res.gr hg4 (HM.out.nb (by omega))
      have hE4 := hg4.keep HM.out.err (HM.out.nb (by omega))
      have hxf := hT4.facts
      have z0 := hT4.froz 0 (by decide)
      have z1 := hT4.froz 1 (by decide)
      have z2 := hT4.froz 2 (by decide)
      have z3 := hT4.froz 3 (by decide)
      have z4 := hT4.froz 4 (by decide)
      have z5 := hT4.froz 5 (by decide)
      have z6 := hT4.froz 6 (by decide)
      have z7 := hT4.froz 7 (by decide)
      have z8 := hT4.froz 8 (by decide)
      obtain ⟨q1, q2⟩ := cell_of hE4
      obtain ⟨s9, g9⟩ := hT4.set9 tk tn tx ty ts ta tc td (.slice a1 n1 c1) (.slice a2 n2 c2)
      have S9 := Lib.hid s9
      have G9 := Lib.hid g9
      have HE4 := Lib.hid hE4
      have Hrep := Lib.hid hrep
      have Hg4 := Lib.hid hg4
      clear s9 g9 hT4 hE4 hrep hg4
      go_wp2_with fail
      generalize World.setCell (World.setCell (World.setCell (World.setCell (World.setCell (World.setCell (World.setCell (World.setCell (World.setCell w4 _ _) _ _) _ _) _ _) _ _) _ _) _ _) _ _) _ _ = wa at S9 G9 ⊢
      have gq : Gr (fun i => i = W.heap.size + 1) wa (wa.setCell ⟨W.heap.size + 1, 0, none⟩ (.int .i64 0)) := Gr.set (S := fun i => i = W.heap.size + 1) wa ⟨W.heap.size + 1, 0, none⟩ _ rfl
      have hEz := heap_setCell_same wa (W.heap.size + 1) 0 _ 32 (.int .i64 0) (G9.out.keep HE4.out (by omega))
      have hTz := S9.out.gr gq (by omega)
      have gz : Gr (fun i => i = W.heap.size ∨ i = W.heap.size + 1) w4 (wa.setCell ⟨W.heap.size + 1, 0, none⟩ (.int .i64 0)) := (G9.out.mono (fun _ _ e => .inl e)).trans (gq.mono (fun _ _ e => .inr e))
      generalize wa.setCell ⟨W.heap.size + 1, 0, none⟩ (.int .i64 0) = wz at hEz hTz gz ⊢
      clear hxf z0 z1 z2 z3 z4 z5 z6 z7 z8 q1 q2 gq
      refine leaves_cons (f := 11) (args := #[pt W.heap.size, pt (W.heap.size + 1)]) (by simp) (by simp [go_sem]) ?_
      refine (catch_idle W.heap.size (W.heap.size + 1) wz).mono ?_
      rintro e u' w6 ⟨rfl, rfl, hg6⟩
      obtain ⟨⟨m0, m1, m2, m3, m4, m5, m6, m7, m8⟩, mf⟩ := nine (hg6.keep hTz (fun e => e))
      obtain ⟨r1, r2⟩ := cell_of (hg6.keep hEz (fun e => e))
      have hsz : W.heap.size + 2 ≤ wr.heap.size := by have := HM.out.lt; have := HM.out.ht; omega
      have hrep6 := Hrep.out.turn (W' := w6) (A' := fun k => W.heap.size ≤ k) (fun z hz hlt => ⟨by omega, (hg6.block z (by have := gz.size; omega) (fun e => e)).trans (gz.block z hlt (by omega))⟩)
      exact ⟨.tuple #[tv tk tn tx ty ts ta tc td (.slice a1 n1 c1) (.slice a2 n2 c2), .int .i64 0], by simp [results, Tryz.results5, go_sem, m0, m1, m2, m3, m4, m5, m6, m7, m8, r1], _, rfl, hrep6, ((HM.out.gr.trans' Hg4.out (fun i hi e => HM.out.nb (by omega) e)).trans' gz (fun i hi e => by omega)).trans hg6⟩
  · have e3 : (World.drew (World.alloc W1 (.cells #[.slice none 0 0, .int .i64 0, .pointer none] 47))).heap.size = W.heap.size + 2 + 1 := by show (World.alloc W1 _).heap.size = _; rw [World.size_alloc, hs1]
    have htab' : Tab w3 (W.heap.size + 2 + 1) none (.slice none 0 0) [] := by rwa [e3] at htab
    have hBs := heap_setCell_same _ (W.heap.size + 2) 2 _ 47 (pt (W.heap.size + 2 + 1)) (heap_setCell_same _ (W.heap.size + 2) 1 _ 47 (.int .i64 0) (heap_setCell_same w3 (W.heap.size + 2) 0 _ 47 (.slice (some ⟨g, o + 1, none⟩) (p - 1) (qc - 1)) hB3))
    have gs : Gr (fun i => i = W.heap.size + 2) w3 (((w3.setCell ⟨W.heap.size + 2, 0, none⟩ (.slice (some ⟨g, o + 1, none⟩) (p - 1) (qc - 1))).setCell ⟨W.heap.size + 2, 1, none⟩ (.int .i64 0)).setCell ⟨W.heap.size + 2, 2, none⟩ (pt (W.heap.size + 2 + 1))) :=
      ((Gr.set (S := fun i => i = W.heap.size + 2) _ _ _ rfl).trans (Gr.set (S := fun i => i = W.heap.size + 2) _ _ _ rfl)).trans (Gr.set (S := fun i => i = W.heap.size + 2) _ _ _ rfl)
    generalize World.setCell (World.setCell (World.setCell w3 _ _) _ _) _ _ = wr at hBs gs ⊢
    have gA : Gr (fun _ => False) W1 wr := (((Gr.alloc W1 _ _).trans (Gr.drew _ _)).trans g3).trans' gs (fun i hi e => by omega)
    have hM := mk_of hZ hd.out hg1 hT1 hE1 gA (by simpa using hBs) (htab'.gr gs (fun k hk e => by
      rcases hk with rfl | hk | hk
      · omega
      · cases hk
      · simp [Value.ownBlock] at hk)) (Nat.le_refl _) (by omega) (by omega)
    obtain ⟨b, hb⟩ : ∃ b, b = W.heap.size + 2 := ⟨_, rfl⟩
    rw [← hb] at hM ⊢
    obtain ⟨tb, htb⟩ : ∃ tb, tb = b + 1 := ⟨_, rfl⟩
    rw [← htb] at hM
    have hcall := Lib.hid (mk_call hM hr.out)
    have HM := Lib.hid hM
    clear hM gA htab' htab g3 hBs gs hB3 c0 c1 c2 f0 f1 f2 hl3 e3 hs1 hT1 hE1 hg1 hd hN1 hb htb
    cases r with
    | error c =>
      go_wp2_with fail
      refine hcall.out.mono ?_
      rintro e w4 ⟨rfl, hg4⟩
      refine leaves_cons (f := 11) (args := #[pt W.heap.size, pt (W.heap.size + 1)]) (by simp) (by simp [go_sem]) ?_
      refine (catch_thrown W.heap.size (W.heap.size + 1) c w4 (HM.out.res.gr hg4 (HM.out.nb (by omega))) (hg4.keep HM.out.err (HM.out.nb (by omega)))).mono ?_
      rintro e u' w5 ⟨rfl, rfl, hT5, hE5, hg5⟩
      obtain ⟨⟨m0, m1, m2, m3, m4, m5, m6, m7, m8⟩, mf⟩ := nine (show w5.heap[W.heap.size]? = _ from hT5)
      obtain ⟨r1, r2⟩ := cell_of hE5
      exact ⟨.tuple #[lf 0 0 0 0 e0 0 0 0, .int .i64 c], by simp [results, Tryz.results5, go_sem, m0, m1, m2, m3, m4, m5, m6, m7, m8, r1], rfl, (HM.out.gr.trans' hg4 (fun i hi e => HM.out.nb (by omega) e)).trans' hg5 (fun i hi e => by omega)⟩
    | ok T =>
      go_wp2_with fail
      refine hcall.out.mono ?_
      rintro e w4 ⟨v, rfl, hrep, hg4⟩
      obtain ⟨tk, tn, tx, ty, ts, ta, tc, td, a1, n1, c1, a2, n2, c2, rfl⟩ := hrep.agg
      have hT4 := HM.out.res.gr hg4 (HM.out.nb (by omega))
      have hE4 := hg4.keep HM.out.err (HM.out.nb (by omega))
      have hxf := hT4.facts
      have z0 := hT4.froz 0 (by decide)
      have z1 := hT4.froz 1 (by decide)
      have z2 := hT4.froz 2 (by decide)
      have z3 := hT4.froz 3 (by decide)
      have z4 := hT4.froz 4 (by decide)
      have z5 := hT4.froz 5 (by decide)
      have z6 := hT4.froz 6 (by decide)
      have z7 := hT4.froz 7 (by decide)
      have z8 := hT4.froz 8 (by decide)
      obtain ⟨q1, q2⟩ := cell_of hE4
      obtain ⟨s9, g9⟩ := hT4.set9 tk tn tx ty ts ta tc td (.slice a1 n1 c1) (.slice a2 n2 c2)
      have S9 := Lib.hid s9
      have G9 := Lib.hid g9
      have HE4 := Lib.hid hE4
      have Hrep := Lib.hid hrep
      have Hg4 := Lib.hid hg4
      clear s9 g9 hT4 hE4 hrep hg4
      go_wp2_with fail
      generalize World.setCell (World.setCell (World.setCell (World.setCell (World.setCell (World.setCell (World.setCell (World.setCell (World.setCell w4 _ _) _ _) _ _) _ _) _ _) _ _) _ _) _ _) _ _ = wa at S9 G9 ⊢
      have gq : Gr (fun i => i = W.heap.size + 1) wa (wa.setCell ⟨W.heap.size + 1, 0, none⟩ (.int .i64 0)) := Gr.set (S := fun i => i = W.heap.size + 1) wa ⟨W.heap.size + 1, 0, none⟩ _ rfl
      have hEz := heap_setCell_same wa (W.heap.size + 1) 0 _ 32 (.int .i64 0) (G9.out.keep HE4.out (by omega))
      have hTz := S9.out.gr gq (by omega)
      have gz : Gr (fun i => i = W.heap.size ∨ i = W.heap.size + 1) w4 (wa.setCell ⟨W.heap.size + 1, 0, none⟩ (.int .i64 0)) := (G9.out.mono (fun _ _ e => .inl e)).trans (gq.mono (fun _ _ e => .inr e))
      generalize wa.setCell ⟨W.heap.size + 1, 0, none⟩ (.int .i64 0) = wz at hEz hTz gz ⊢
      clear hxf z0 z1 z2 z3 z4 z5 z6 z7 z8 q1 q2 gq
      refine leaves_cons (f := 11) (args := #[pt W.heap.size, pt (W.heap.size + 1)]) (by simp) (by simp [go_sem]) ?_
      refine (catch_idle W.heap.size (W.heap.size + 1) wz).mono ?_
      rintro e u' w6 ⟨rfl, rfl, hg6⟩
      obtain ⟨⟨m0, m1, m2, m3, m4, m5, m6, m7, m8⟩, mf⟩ := nine (hg6.keep hTz (fun e => e))
      obtain ⟨r1, r2⟩ := cell_of (hg6.keep hEz (fun e => e))
      have hsz : W.heap.size + 2 ≤ wr.heap.size := by have := HM.out.lt; have := HM.out.ht; omega
      have hrep6 := Hrep.out.turn (W' := w6) (A' := fun k => W.heap.size ≤ k) (fun z hz hlt => ⟨by omega, (hg6.block z (by have := gz.size; omega) (fun e => e)).trans (gz.block z hlt (by omega))⟩)
      exact ⟨.tuple #[tv tk tn tx ty ts ta tc td (.slice a1 n1 c1) (.slice a2 n2 c2), .int .i64 0], by simp [results, Tryz.results5, go_sem, m0, m1, m2, m3, m4, m5, m6, m7, m8, r1], _, rfl, hrep6, ((HM.out.gr.trans' Hg4.out (fun i hi e => HM.out.nb (by omega) e)).trans' gz (fun i hi e => by omega)).trans hg6⟩
end Go.Proofs.YtmohehfkbhllpaaGreat


namespace Go.Proofs.YtmohehfkbhllpaaGreat
open Go.RowKit Go.Maps
variable {Z F F0 : Nat → Prop} {W W' : World}
set_option maxRecDepth 100000 in
set_option maxHeartbeats 800000 in
theorem dec_go1 (r : Except Int Tm) (m : List Int) (hr : Hid (r = beg [] m 0 [])) (g o : Nat) (hZ : ∀ k, Z k → k < W.heap.size) (hc0 : W.cell? ⟨g, o, none⟩ = some (.int .u8 69))
    (hd : Sq Z W (.slice (some ⟨g, o, none⟩) 0 0) m) : Calls Tryz.prog 5 #[.slice (some ⟨g, o, none⟩) 1 1] W fun e w' => EndV W e w' r := by
  have hmf : ∀ (fn : Fn) (first cap : Array Value) (w : World), (Instr.makeFunc fn first cap).run Tryz.prog w = .ok (.func fn first cap) w := fun _ _ _ _ => rfl
  have hgl := World.block_lt_of_cell? _ _ hc0
  replace hd := Lib.hid hd
  go_enter_defers Tryz.func5, Tryz.ntmps5
  go_wp2_with fail
  generalize hW1 : World.alloc (World.alloc W _) _ = W1
  have hg1 : Gr (fun _ => False) W W1 := hW1 ▸ (Gr.alloc _ _ _).trans (Gr.alloc _ _ _)
  have hT1 : Bx W1 W.heap.size 0 0 0 0 e0 0 0 0 nl nl := by
    subst hW1; simp only [Bx, al, World.size_alloc]; repeat (first | rw [if_pos trivial] | rw [if_pos (by omega)] | rw [if_neg (by omega)])
  have hE1 : W1.heap[W.heap.size + 1]? = some (.cells #[.int .i64 0] 32 (0, 0)) := by
    subst hW1; simp only [al, World.size_alloc]; repeat (first | rw [if_pos trivial] | rw [if_pos (by omega)] | rw [if_neg (by omega)])
  have hs1 : W1.heap.size = W.heap.size + 2 := by rw [← hW1]; simp
  clear hW1
  refine wp_mono (Q := Exit.then _ (fun _ _ _ => False)) ?_ thenF_le
  have hN1 : (World.drew (World.alloc W1 (.cells #[.slice none 0 0, .int .i64 0, .pointer none] 47))).heap[W.heap.size + 2]? = some (.cells #[.slice none 0 0, .int .i64 0, .pointer none] 47 (0, 0)) := by
    have := heap_alloc_new W1 (.cells #[.slice none 0 0, .int .i64 0, .pointer none] 47)
    rw [hs1] at this
    exact this
  replace hN1 := Lib.hid hN1
  go_region_with (first
    | (go_at_call 12; with_reducible refine (new_c (World.drew (World.alloc W1 (.cells #[.slice none 0 0, .int .i64 0, .pointer none] 47)))).mono ?_; rintro e w3 ⟨rfl, htab, g3⟩; have hB3 := g3.keep hN1.out (fun e => e); obtain ⟨c0, c1, c2, f0, f1⟩ := three46 hB3; have f2 : w3.frozen? ⟨W.heap.size + 2, 2, none⟩ = false := (by simp [World.frozen?, hB3]); have hl3 : W.heap.size + 2 < w3.heap.size := (Array.getElem?_eq_some_iff.1 hB3).1)
    | (go_at_call 12; with_reducible refine (new_c (World.drew W1)).mono ?_; rintro e w3 ⟨rfl, htab, g3⟩)
    | fail)
  · have gA : Gr (fun _ => False) W1 (w3.alloc (.cells #[.slice (some ⟨g, o, none⟩) 0 0, .int .i64 0, pt (W.heap.size + 2)] 47)) := ((Gr.drew W1 _).trans g3).trans (Gr.alloc _ _ _)
    have hs3 : W.heap.size + 2 < w3.heap.size := by have := (Array.getElem?_eq_some_iff.1 htab.blk).1; have e : W1.drew.heap.size = W.heap.size + 2 := hs1; omega
    have htab' : Tab w3 (W.heap.size + 2) none (.slice none 0 0) [] := by have e : W1.drew.heap.size = W.heap.size + 2 := hs1; rwa [e] at htab
    have hM := mk_of hZ hd.out hg1 hT1 hE1 gA (heap_alloc_new w3 _) (htab'.gr (Gr.alloc w3 _ (fun _ => False)) (fun _ _ e => e)) (by omega) (Nat.le_refl _) (by omega)
    generalize w3.alloc _ = wr at hM ⊢
    obtain ⟨b, hb⟩ : ∃ b, b = w3.heap.size := ⟨_, rfl⟩
    rw [← hb] at hM ⊢
    obtain ⟨tb, htb⟩ : ∃ tb, tb = W.heap.size + 2 := ⟨_, rfl⟩
    rw [← htb] at hM
    have hcall := Lib.hid (mk_call hM hr.out)
    have HM := Lib.hid hM
    clear hM gA htab' htab g3 hs1 hT1 hE1 hg1 hd hN1 hb htb hs3
    cases r with
    | error c =>
      go_wp2_with fail
      refine hcall.out.mono ?_
      rintro e w4 ⟨rfl, hg4⟩
      refine leaves_cons (f := 11) (args := #[pt W.heap.size, pt (W.heap.size + 1)]) (by simp) (by simp [go_sem]) ?_
      refine (catch_thrown W.heap.size (W.heap.size + 1) c w4 (HM.out.res.gr hg4 (HM.out.nb (by omega))) (hg4.keep HM.out.err (HM.out.nb (by omega)))).mono ?_
      rintro e u' w5 ⟨rfl, rfl, hT5, hE5, hg5⟩
      obtain ⟨⟨m0, m1, m2, m3, m4, m5, m6, m7, m8⟩, mf⟩ := nine (show w5.heap[W.heap.size]? = _ from hT5)
      obtain ⟨r1, r2⟩ := cell_of hE5
      exact ⟨.tuple #[lf 0 0 0 0 e0 0 0 0, .int .i64 c], by simp [results, Tryz.results5, go_sem, m0, m1, m2, m3, m4, m5, m6, m7, m8, r1], rfl, (HM.out.gr.trans' hg4 (fun i hi e => HM.out.nb (by omega) e)).trans' hg5 (fun i hi e => by omega)⟩
    | ok T =>
      go_wp2_with fail
      refine hcall.out.mono ?_
      rintro e w4 ⟨v, rfl, hrep, hg4⟩
      obtain ⟨tk, tn, tx, ty, ts, ta, tc, td, a1, n1, c1, a2, n2, c2, rfl⟩ := hrep.agg
      have hT4 := HM.out.res.gr hg4 (HM.out.nb (by omega))
      have hE4 := hg4.keep HM.out.err (HM.out.nb (by omega))
      have hxf := hT4.facts
      have z0 := hT4.froz 0 (by decide)
      have z1 := hT4.froz 1 (by decide)
      have z2 := hT4.froz 2 (by decide)
      have z3 := hT4.froz 3 (by decide)
      have z4 := hT4.froz 4 (by decide)
      have z5 := hT4.froz 5 (by decide)
      have z6 := hT4.froz 6 (by decide)
      have z7 := hT4.froz 7 (by decide)
      have z8 := hT4.froz 8 (by decide)
      obtain ⟨q1, q2⟩ := cell_of hE4
      obtain ⟨s9, g9⟩ := hT4.set9 tk tn tx ty ts ta tc td (.slice a1 n1 c1) (.slice a2 n2 c2)
      have S9 := Lib.hid s9
      have G9 := Lib.hid g9
      have HE4 := Lib.hid hE4
      have Hrep := Lib.hid hrep
      have Hg4 := Lib.hid hg4
      clear s9 g9 hT4 hE4 hrep hg4
      go_wp2_with fail
      generalize World.setCell (World.setCell (World.setCell (World.setCell (World.setCell (World.setCell (World.setCell (World.setCell (World.setCell w4 _ _) _ _) _ _) _ _) _ _) _ _) _ _) _ _) _ _ = wa at S9 G9 ⊢
      have gq : Gr (fun i => i = W.heap.size + 1) wa (wa.setCell ⟨W.heap.size + 1, 0, none⟩ (.int .i64 0)) := Gr.set (S := fun i => i = W.heap.size + 1) wa ⟨W.heap.size + 1, 0, none⟩ _ rfl
      have hEz := heap_setCell_same wa (W.heap.size + 1) 0 _ 32 (.int .i64 0) (G9.out.keep HE4.out (by omega))
      have hTz := S9.out.gr gq (by omega)
      have gz : Gr (fun i => i = W.heap.size ∨ i = W.heap.size + 1) w4 (wa.setCell ⟨W.heap.size + 1, 0, none⟩ (.int .i64 0)) := (G9.out.mono (fun _ _ e => .inl e)).trans (gq.mono (fun _ _ e => .inr e))
      generalize wa.setCell ⟨W.heap.size + 1, 0, none⟩ (.int .i64 0) = wz at hEz hTz gz ⊢
      clear hxf z0 z1 z2 z3 z4 z5 z6 z7 z8 q1 q2 gq
      refine leaves_cons (f := 11) (args := #[pt W.heap.size, pt (W.heap.size + 1)]) (by simp) (by simp [go_sem]) ?_
      refine (catch_idle W.heap.size (W.heap.size + 1) wz).mono ?_
      rintro e u' w6 ⟨rfl, rfl, hg6⟩
      obtain ⟨⟨m0, m1, m2, m3, m4, m5, m6, m7, m8⟩, mf⟩ := nine (hg6.keep hTz (fun e => e))
      obtain ⟨r1, r2⟩ := cell_of (hg6.keep hEz (fun e => e))
      have hsz : W.heap.size + 2 ≤ wr.heap.size := by have := HM.out.lt; have := HM.out.ht; omega
      have hrep6 := Hrep.out.turn (W' := w6) (A' := fun k => W.heap.size ≤ k) (fun z hz hlt => ⟨by omega, (hg6.block z (by have := gz.size; omega) (fun e => e)).trans (gz.block z hlt (by omega))⟩)
      exact ⟨.tuple #[tv tk tn tx ty ts ta tc td (.slice a1 n1 c1) (.slice a2 n2 c2), .int .i64 0], by simp [results, Tryz.results5, go_sem, m0, m1, m2, m3, m4, m5, m6, m7, m8, r1], _, rfl, hrep6, ((HM.out.gr.trans' Hg4.out (fun i hi e => HM.out.nb (by omega) e)).trans' gz (fun i hi e => by omega)).trans hg6⟩
  · have e3 : (World.drew (World.alloc W1 (.cells #[.slice none 0 0, .int .i64 0, .pointer none] 47))).heap.size = W.heap.size + 2 + 1 := by show (World.alloc W1 _).heap.size = _; rw [World.size_alloc, hs1]
    have htab' : Tab w3 (W.heap.size + 2 + 1) none (.slice none 0 0) [] := by rwa [e3] at htab
    have hBs := heap_setCell_same _ (W.heap.size + 2) 2 _ 47 (pt (W.heap.size + 2 + 1)) (heap_setCell_same _ (W.heap.size + 2) 1 _ 47 (.int .i64 0) (heap_setCell_same w3 (W.heap.size + 2) 0 _ 47 (.slice (some ⟨g, o, none⟩) 0 0) hB3))
    have gs : Gr (fun i => i = W.heap.size + 2) w3 (((w3.setCell ⟨W.heap.size + 2, 0, none⟩ (.slice (some ⟨g, o, none⟩) 0 0)).setCell ⟨W.heap.size + 2, 1, none⟩ (.int .i64 0)).setCell ⟨W.heap.size + 2, 2, none⟩ (pt (W.heap.size + 2 + 1))) :=
      ((Gr.set (S := fun i => i = W.heap.size + 2) _ _ _ rfl).trans (Gr.set (S := fun i => i = W.heap.size + 2) _ _ _ rfl)).trans (Gr.set (S := fun i => i = W.heap.size + 2) _ _ _ rfl)
    generalize World.setCell (World.setCell (World.setCell w3 _ _) _ _) _ _ = wr at hBs gs ⊢
    have gA : Gr (fun _ => False) W1 wr := (((Gr.alloc W1 _ _).trans (Gr.drew _ _)).trans g3).trans' gs (fun i hi e => by omega)
    have hM := mk_of hZ hd.out hg1 hT1 hE1 gA (by simpa using hBs) (htab'.gr gs (fun k hk e => by
      rcases hk with rfl | hk | hk
      · omega
      · cases hk
      · simp [Value.ownBlock] at hk)) (Nat.le_refl _) (by omega) (by omega)
    obtain ⟨b, hb⟩ : ∃ b, b = W.heap.size + 2 := ⟨_, rfl⟩
    rw [← hb] at hM ⊢
    obtain ⟨tb, htb⟩ : ∃ tb, tb = b + 1 := ⟨_, rfl⟩
    rw [← htb] at hM
    have hcall := Lib.hid (mk_call hM hr.out)
    have HM := Lib.hid hM
    clear hM gA htab' htab g3 hBs gs hB3 c0 c1 c2 f0 f1 f2 hl3 e3 hs1 hT1 hE1 hg1 hd hN1 hb htb
    cases r with
    | error c =>
      go_wp2_with fail
      refine hcall.out.mono ?_
      rintro e w4 ⟨rfl, hg4⟩
      refine leaves_cons (f := 11) (args := #[pt W.heap.size, pt (W.heap.size + 1)]) (by simp) (by simp [go_sem]) ?_
      refine (catch_thrown W.heap.size (W.heap.size + 1) c w4 (HM.out.res.gr hg4 (HM.out.nb (by omega))) (hg4.keep HM.out.err (HM.out.nb (by omega)))).mono ?_
      rintro e u' w5 ⟨rfl, rfl, hT5, hE5, hg5⟩
      obtain ⟨⟨m0, m1, m2, m3, m4, m5, m6, m7, m8⟩, mf⟩ := nine (show w5.heap[W.heap.size]? = _ from hT5)
      obtain ⟨r1, r2⟩ := cell_of hE5
      exact ⟨.tuple #[lf 0 0 0 0 e0 0 0 0, .int .i64 c], by simp [results, Tryz.results5, go_sem, m0, m1, m2, m3, m4, m5, m6, m7, m8, r1], rfl, (HM.out.gr.trans' hg4 (fun i hi e => HM.out.nb (by omega) e)).trans' hg5 (fun i hi e => by omega)⟩
    | ok T =>
      go_wp2_with fail
      refine hcall.out.mono ?_
      rintro e w4 ⟨v, rfl, hrep, hg4⟩
      obtain ⟨tk, tn, tx, ty, ts, ta, tc, td, a1, n1, c1, a2, n2, c2, rfl⟩ := hrep.agg
      have hT4 := HM.out.res.gr hg4 (HM.out.nb (by omega))
      have hE4 := hg4.keep HM.out.err (HM.out.nb (by omega))
      have hxf := hT4.facts
      have z0 := hT4.froz 0 (by decide)
      have z1 := hT4.froz 1 (by decide)
      have z2 := hT4.froz 2 (by decide)
      have z3 := hT4.froz 3 (by decide)
      have z4 := hT4.froz 4 (by decide)
      have z5 := hT4.froz 5 (by decide)
      have z6 := hT4.froz 6 (by decide)
      have z7 := hT4.froz 7 (by decide)
      have z8 := hT4.froz 8 (by decide)
      obtain ⟨q1, q2⟩ := cell_of hE4
      obtain ⟨s9, g9⟩ := hT4.set9 tk tn tx ty ts ta tc td (.slice a1 n1 c1) (.slice a2 n2 c2)
      have S9 := Lib.hid s9
      have G9 := Lib.hid g9
      have HE4 := Lib.hid hE4
      have Hrep := Lib.hid hrep
      have Hg4 := Lib.hid hg4
      clear s9 g9 hT4 hE4 hrep hg4
      go_wp2_with fail
      generalize World.setCell (World.setCell (World.setCell (World.setCell (World.setCell (World.setCell (World.setCell (World.setCell (World.setCell w4 _ _) _ _) _ _) _ _) _ _) _ _) _ _) _ _) _ _ = wa at S9 G9 ⊢
      have gq : Gr (fun i => i = W.heap.size + 1) wa (wa.setCell ⟨W.heap.size + 1, 0, none⟩ (.int .i64 0)) := Gr.set (S := fun i => i = W.heap.size + 1) wa ⟨W.heap.size + 1, 0, none⟩ _ rfl
      have hEz := heap_setCell_same wa (W.heap.size + 1) 0 _ 32 (.int .i64 0) (G9.out.keep HE4.out (by omega))
      have hTz := S9.out.gr gq (by omega)
      have gz : Gr (fun i => i = W.heap.size ∨ i = W.heap.size + 1) w4 (wa.setCell ⟨W.heap.size + 1, 0, none⟩ (.int .i64 0)) := (G9.out.mono (fun _ _ e => .inl e)).trans (gq.mono (fun _ _ e => .inr e))
      generalize wa.setCell ⟨W.heap.size + 1, 0, none⟩ (.int .i64 0) = wz at hEz hTz gz ⊢
      clear hxf z0 z1 z2 z3 z4 z5 z6 z7 z8 q1 q2 gq
      refine leaves_cons (f := 11) (args := #[pt W.heap.size, pt (W.heap.size + 1)]) (by simp) (by simp [go_sem]) ?_
      refine (catch_idle W.heap.size (W.heap.size + 1) wz).mono ?_
      rintro e u' w6 ⟨rfl, rfl, hg6⟩
      obtain ⟨⟨m0, m1, m2, m3, m4, m5, m6, m7, m8⟩, mf⟩ := nine (hg6.keep hTz (fun e => e))
      obtain ⟨r1, r2⟩ := cell_of (hg6.keep hEz (fun e => e))
      have hsz : W.heap.size + 2 ≤ wr.heap.size := by have := HM.out.lt; have := HM.out.ht; omega
      have hrep6 := Hrep.out.turn (W' := w6) (A' := fun k => W.heap.size ≤ k) (fun z hz hlt => ⟨by omega, (hg6.block z (by have := gz.size; omega) (fun e => e)).trans (gz.block z hlt (by omega))⟩)
      exact ⟨.tuple #[tv tk tn tx ty ts ta tc td (.slice a1 n1 c1) (.slice a2 n2 c2), .int .i64 0], by simp [results, Tryz.results5, go_sem, m0, m1, m2, m3, m4, m5, m6, m7, m8, r1], _, rfl, hrep6, ((HM.out.gr.trans' Hg4.out (fun i hi e => HM.out.nb (by omega) e)).trans' gz (fun i hi e => by omega)).trans hg6⟩

theorem dec_ok : DecOk := by
  intro Z W v m hq hZ
  by_cases h1 : 131072 < m.length
  · exact dec_long v m hq h1
  cases m with
  | nil => exact dec_none v hq
  | cons c m =>
    by_cases hc : c = 69
    · subst hc
      rw [decV_ok h1]
      have hq0 := hq
      obtain ⟨qa, qc, rfl, hqc, hqc2, -, hq⟩ := hq
      have hd := hq0.drop 1 (by simp)
      obtain ⟨g, o, rfl, hZg, hq⟩ := hq (by simp)
      have hc0 := hq 0 69 (by simp)
      rw [Nat.add_zero] at hc0
      have hdm : List.drop 1 ((69 : Int) :: m) = m := rfl
      rw [hdm] at hd
      by_cases hq1 : qc = 1
      · subst hq1
        have hlen : ((69 : Int) :: m).length = 1 := by simp only [List.length_cons] at hqc ⊢; omega
        rw [hlen] at hd ⊢
        rw [if_pos rfl] at hd
        exact dec_go1 _ m (Lib.hid rfl) g o hZ hc0 hd
      · rw [if_neg hq1] at hd
        obtain ⟨p, hp⟩ : ∃ p, ((69 : Int) :: m).length = p := ⟨_, rfl⟩
        rw [hp] at hd hqc h1 ⊢
        exact dec_go2 _ m (Lib.hid rfl) g o p qc hZ hc0 (by rw [← hp, List.length_cons]; omega) (by omega) hqc hqc2 hq1 hd
    · exact dec_mark v c m hq h1 hc
end Go.Proofs.YtmohehfkbhllpaaGreat

