/-
  A copy and what it was copied of know nothing of each other: the walk.
-/
import Derived.Test.YtipdniiamaaolaaS
import Derived.Stop.RegionWithIn
namespace Go.Proofs.Ytipdniiamaaolaa
open Go.RowKit Go.Maps Go.WideMaps Go.Shelf
attribute [local go_sem] Oper.semAt_some
set_option linter.unusedVariables false
set_option linter.unusedSimpArgs false

/-- What is asked behind the walk, no panic among the ways out. -/
def noPanic (Q : Exit → Act → World → Prop) : Exit → Act → World → Prop
  | .panic _, _, _ => False
  | .normal, a, w => Q .normal a w
  | .ret, a, w => Q .ret a w
  | .exit i, a, w => Q (.exit i) a w
  | .goto t, a, w => Q (.goto t) a w
  | .outgrown, a, w => Q .outgrown a w
theorem noPanic_le {Q : Exit → Act → World → Prop} : ∀ e a w, noPanic Q e a w → Q e a w
  | .panic _, _, _, h => h.elim
  | .normal, _, _, h => h
  | .ret, _, _, h => h
  | .exit _, _, _, h => h
  | .goto _, _, _, h => h
  | .outgrown, _, _, h => h
/-- The boxes of the call's own variables. -/
structure Boxes (W : World) (pb T : Nat) (bv lv : Value) (X : World) : Prop where
  cb : X.heap[W.heap.size]? = some (.cells #[bv] 27 (0, 0))
  cr : X.heap[W.heap.size + 1]? = some (.cells #[.bool false] 4 (0, 0))
  ct : X.heap[T]? = some (.cells #[pt pb] 25 (0, 0))
  cl : X.heap[T + 1]? = some (.cells #[lv] 27 (0, 0))
  ne : ∀ k, lv.ownBlock = some k → k ≠ T + 1
theorem Boxes.kept {W X X' : World} {pb T : Nat} {bv lv : Value} (h : Boxes W pb T bv lv X) (k : Kept X X') : Boxes W pb T bv lv X' :=
  ⟨k _ _ h.cb (by simp [Other]), k _ _ h.cr (by simp [Other]), k _ _ h.ct (by simp [Other]), k _ _ h.cl (by simp [Other]), h.ne⟩
theorem boxes0 {W w1 w2 : World} {T pb : Nat} {bv : Value} (hg : Gr (fun _ => False) ((W.alloc (.cells #[bv] 27)).alloc (.cells #[.bool false] 4)) w1) (hn : Gr (fun _ => False) w1 w2) (ho : Own W w2 pb []) (hT : T = w2.heap.size) :
    Duo W ((w2.alloc (.cells #[pt pb] 25)).alloc (.cells #[.slice none 0 0] 27)) pb [] (.slice none 0 0) [] ∧ Boxes W pb T bv (.slice none 0 0) ((w2.alloc (.cells #[pt pb] 25)).alloc (.cells #[.slice none 0 0] 27)) := by
  subst hT
  have g2 : Gr (fun _ => False) w2 ((w2.alloc (.cells #[pt pb] 25)).alloc (.cells #[.slice none 0 0] 27)) := (Gr.alloc _ _ _).trans (Gr.alloc _ _ _)
  have a0 := alloc_at (o := .cells #[.bool false] 4) W.heap.size (heap_alloc_new W (.cells #[bv] 27))
  have a1 := heap_alloc_new (W.alloc (.cells #[bv] 27)) (.cells #[.bool false] 4)
  have a3 := heap_alloc_new (w2.alloc (.cells #[pt pb] 25)) (.cells #[.slice none 0 0] 27)
  rw [World.size_alloc] at a1 a3
  have k1 := (hg.block _ (Array.getElem?_eq_some_iff.1 a0).1 (fun e => e)).trans a0
  have k2 := (hg.block _ (Array.getElem?_eq_some_iff.1 a1).1 (fun e => e)).trans a1
  refine ⟨(duo_new ho).gr g2, ?_, ?_, alloc_at _ (heap_alloc_new _ _), a3, fun k hk => by cases hk⟩
  · exact alloc_at _ (alloc_at _ ((hn.block _ (Array.getElem?_eq_some_iff.1 k1).1 (fun e => e)).trans k1))
  · exact alloc_at _ (alloc_at _ ((hn.block _ (Array.getElem?_eq_some_iff.1 k2).1 (fun e => e)).trans k2))

/-- Between two rounds of the loop over what All has given. -/
def ApI (W : World) (pb T q : Nat) (bv lv sv : Value) (c : Nat) (l : List ByteArray) (r : Nat) (X : World) : Prop :=
  ∃ lc, QuadE W X pb lc c l lv sv (fun i => i = q + 1 ∨ i = q + 1 + 1) ∧ Boxes W pb T bv lv X ∧ X.heap[q]? = some (.cells #[.int .i64 (r : Int)] 3 (0, 0))
theorem ApI.turn {W X X' : World} {pb T q c r : Nat} {bv lv sv : Value} {l : List ByteArray} (h : ApI W pb T q bv lv sv c l r X) (hW : W.heap.size + 1 < T) (hT : T + 1 < q) (hL : ∀ k, lv.ownBlock = some k → k < q) (hV : ∀ k, sv.ownBlock = some k → k < q) (t : BookTurn (q + 1) X X') : ApI W pb T q bv lv sv c l r X' := by
  obtain ⟨lc, hQ, hB, hN⟩ := h
  have kp : ∀ (j : Nat) (o : Obj), X.heap[j]? = some o → j ≤ q → X'.heap[j]? = some o := fun j o ho hj => (t.block j (Array.getElem?_eq_some_iff.1 ho).1 (by omega)).trans ho
  exact ⟨lc, hQ.turn t (fun j e => by omega) (fun k hk e => by have := hL k hk; omega) (fun k hk e => by have := hV k hk; omega), ⟨kp _ _ hB.cb (by omega), kp _ _ hB.cr (by omega), kp _ _ hB.ct (by omega), kp _ _ hB.cl (by omega), hB.ne⟩, kp _ _ hN (Nat.le_refl _)⟩
theorem ApI.told {W X : World} {pb T q c r : Nat} {bv lv sv : Value} {l : List ByteArray} (h : ApI W pb T q bv lv sv c l r X) : Snap X sv l := by
  obtain ⟨lc, hQ, _, _⟩ := h
  exact hQ.quad.list.2.1
theorem ap_step {W X Y : World} {pb T q c r : Nat} {bv lv sv : Value} {lc l : List ByteArray} (hQ : QuadE W Y pb lc c l lv sv (fun i => i = q + 1 ∨ i = q + 1 + 1)) (hB : Boxes W pb T bv lv Y) (hN : Y.heap[q]? = some (.cells #[.int .i64 (r : Int)] 3 (0, 0)))
    (e1 : Y.heap[q + 1]? = X.heap[q + 1]?) (e2 : Y.heap[q + 1 + 1]? = X.heap[q + 1 + 1]?) (hW : W.heap.size + 1 < T) (hT : T + 1 < q) (hL : ∀ k, lv.ownBlock = some k → k < q) (hV : ∀ k, sv.ownBlock = some k → k < q) :
    Book (q + 1) X (Y.setCell ⟨q, 0, none⟩ (.int .i64 ((r : Int) + 1))) ∧ ApI W pb T q bv lv sv c l (r + 1) (Y.setCell ⟨q, 0, none⟩ (.int .i64 ((r : Int) + 1))) := by
  have kp : ∀ (j : Nat) (o : Obj), Y.heap[j]? = some o → j ≠ q → (Y.setCell ⟨q, 0, none⟩ (.int .i64 ((r : Int) + 1))).heap[j]? = some o := fun j o ho hj => (heap_setCell_other Y _ _ _ hj).trans ho
  refine ⟨⟨(heap_setCell_other Y _ _ _ (show q + 1 ≠ q by omega)).trans e1, (heap_setCell_other Y _ _ _ (show q + 1 + 1 ≠ q by omega)).trans e2⟩, lc, hQ.set ⟨q, 0, none⟩ _ hN (by simp [Other]) (show W.heap.size ≤ q by omega) (fun k hk => by have := hL k hk; show k ≠ q; omega) (fun k hk => by have := hV k hk; show k ≠ q; omega), ?_, heap_setCell_same Y q 0 _ 3 _ hN⟩
  exact ⟨kp _ _ hB.cb (by omega), kp _ _ hB.cr (by omega), kp _ _ hB.ct (by omega), kp _ _ hB.cl (by omega), hB.ne⟩
theorem ap_end {W Y : World} {pb T q : Nat} {bv lv : Value} (hB : Boxes W pb T bv lv Y) (hK : Y.heap[q + 1]? = some (.deferred (some []))) (hW : W.heap.size + 1 < T) (hT : T + 1 < q) (hg : Gr (fun _ => False) W Y) :
    (Y.setCell ⟨W.heap.size + 1, 0, none⟩ (.bool true)).heap[q + 1]? = some (.deferred (some [])) ∧
    ((Y.setCell ⟨W.heap.size + 1, 0, none⟩ (.bool true)).putObj (q + 1) (.deferred none)).heap[W.heap.size + 1]? = some (.cells #[.bool true] 4 (0, 0)) ∧
    Gr (fun _ => False) W ((Y.setCell ⟨W.heap.size + 1, 0, none⟩ (.bool true)).putObj (q + 1) (.deferred none)) := by
  refine ⟨(heap_setCell_other Y _ _ _ (show q + 1 ≠ W.heap.size + 1 by omega)).trans hK, (World.putObj_heap_other (by omega)).trans (heap_setCell_same Y _ 0 _ 4 _ hB.cr), ?_⟩
  have g3 : Gr (fun i => W.heap.size ≤ i) W Y := hg.mono (fun _ _ e => e.elim)
  have g4 := (g3.trans (Gr.set Y ⟨W.heap.size + 1, 0, none⟩ (.bool true) (show W.heap.size ≤ W.heap.size + 1 by omega))).trans (Gr.of_grown (grownBy_putObj' _ (q + 1) (.deferred none)) (fun k e => by cases e; omega))
  exact g4.mono (fun i hi e => by omega)
theorem apart_start {W wr w5 X0 : World} {pb T c : Nat} {m : Option Nat} {bv lv sv : Value} {l : List ByteArray} (hbx : Boxes W pb T bv lv wr) (ht : Tab wr pb m sv l) (hs : Snap wr lv l) (hlv : ∀ k, lv.ownBlock = some k → k < wr.heap.size)
    (hg5 : Gr (fun _ => False) (wr.alloc (.cells #[sv] 27)) w5) (hq5 : Quad W w5 pb l c l lv sv) (hX0 : w5.alloc (Obj.cells #[Value.int IntKind.i64 0] 3) = X0) (hWT : W.heap.size + 1 < T := by omega) :
    X0.heap.size = w5.heap.size + 1 ∧ ApI W pb T w5.heap.size bv lv sv c l 0 X0 ∧ X0.cell? ⟨wr.heap.size, 0, none⟩ = some sv ∧ Snap X0 sv l ∧ (∀ k, lv.ownBlock = some k → k < w5.heap.size) ∧ (∀ k, sv.ownBlock = some k → k < w5.heap.size) ∧ W.heap.size + 1 < T ∧ T + 1 < w5.heap.size := by
  subst hX0
  have hsz := hg5.size
  have hTX : T + 1 < wr.heap.size := (Array.getElem?_eq_some_iff.1 hbx.cl).1
  simp at hsz
  have g0 : Gr (fun _ => False) w5 (w5.alloc (Obj.cells #[Value.int IntKind.i64 0] 3)) := Gr.alloc _ _ _
  have g1 : Gr (fun _ => False) wr (w5.alloc (Obj.cells #[Value.int IntKind.i64 0] 3)) := ((Gr.alloc wr _ _).trans hg5).trans g0
  have hn := alloc_at (o := Obj.cells #[Value.int IntKind.i64 0] 3) _ ((hg5.block wr.heap.size (by simp) (fun e => e)).trans (heap_alloc_new wr (.cells #[sv] 27)))
  have hq := hq5.gr0 g0
  refine ⟨by simp, ⟨l, hq.past (fun k e => by simp; omega), hbx.kept (Kept.of_gr g1), heap_alloc_new _ _⟩, (cell_of hn).1, hq.list.2.1, fun k hk => by have := hlv k hk; omega, fun k hk => by have := ht.lt k (.inr (.inr hk)); omega, hWT, by omega⟩
theorem apart_rel {W X X' : World} {pb T k alen : Nat} {aa : Nat → ByteArray} {bv lv lv' : Value} (h1 : k < alen) (h2 : k < 100) (hT : W.heap.size + 1 < T) (hd : Duo W X' pb (putL (Pk aa k) (aa k)) lv' (putL (Pk aa k) (aa k))) (hb : Boxes W pb T bv lv X) (hk : Kept X X')
    (hl : ∀ q, lv'.ownBlock = some q → lv.ownBlock = some q ∨ X.heap.size ≤ q) :
    ∃ (k_1 : Nat) (lv_1 : Value), k_1 ≤ alen ∧ k_1 ≤ 100 ∧ Value.int IntKind.i64 ((k : Int) + 1) = Value.int IntKind.i64 (k_1 : Int) ∧ Duo W (X'.setCell ⟨T + 1, 0, none⟩ lv') pb (Pk aa k_1) lv_1 (Pk aa k_1) ∧ Boxes W pb T bv lv_1 (X'.setCell ⟨T + 1, 0, none⟩ lv') := by
  have hb' := hb.kept hk
  have hlt : T + 1 < X.heap.size := (Array.getElem?_eq_some_iff.1 hb.cl).1
  have hne : ∀ q, lv'.ownBlock = some q → q ≠ T + 1 := fun q hq => by
    rcases hl q hq with e | e
    · exact hb.ne q e
    · omega
  refine ⟨k + 1, lv', by omega, by omega, by simp, hd.set ⟨T + 1, 0, none⟩ lv' hb'.cl (by simp [Other]) (by show W.heap.size ≤ T + 1; omega) hne, ?_⟩
  exact ⟨(heap_setCell_other X' _ _ _ (show W.heap.size ≠ T + 1 by omega)).trans hb'.cb, (heap_setCell_other X' _ _ _ (show W.heap.size + 1 ≠ T + 1 by omega)).trans hb'.cr, (heap_setCell_other X' _ _ _ (show T ≠ T + 1 by omega)).trans hb'.ct, heap_setCell_same X' (T + 1) 0 _ 27 _ hb'.cl, hne⟩

set_option maxRecDepth 100000 in
set_option maxHeartbeats 8000000 in
theorem apart_c (W : World) (ao : Option Addr) (alen acap : Nat) (aa bs : Nat → ByteArray) (bo : Option Addr) (blen bcap : Nat) (halen : alen ≤ 9223372036854775807)
    (hca : ∀ j, j < alen → ∃ an aoff, ao = some ⟨an, aoff, none⟩ ∧ an < W.heap.size ∧ W.cell? ⟨an, aoff + j, none⟩ = some (.string (aa j))) (hblen : blen ≤ 9223372036854775807)
    (hcb : ∀ j, j < blen → ∃ bb boff, bo = some ⟨bb, boff, none⟩ ∧ bb < W.heap.size ∧ W.cell? ⟨bb, boff + j, none⟩ = some (.string (bs j))) :
    Calls Try.prog 7 #[.slice ao alen acap, .slice bo blen bcap] W fun e W' => e = .returned (.bool true) ∧ Gr (fun _ => False) W W' := by
  refine (callsIn_wide (n := 3)).1 ?_
  refine callsIn_of_wp_marks Try.func7 rfl trivial ?_ rfl
  refine wpIn_mono ?_ noPanic_le
  simp only [Try.ntmps7, List.size_toArray, List.length_cons, List.length_nil, Nat.reduceAdd, Nat.reduceSub, Array.replicate_succ, Array.replicate_zero, List.push_toArray, List.append_toArray, List.nil_append, List.cons_append]
  gi_wp2_with (first
    | (refine ⟨trivial, ?_⟩; gi_at_call 9; refine (callsIn_wide.2 (alive_c _)).mono ?_; rintro e w1 ⟨rfl, hg⟩)
    | (refine ⟨trivial, ?_⟩; gi_at_call 12; refine (callsIn_wide.2 (new_c _)).mono ?_; rintro e w2 ⟨rfl, htn, hgn⟩))
  have ho : Own W w2 w1.heap.size [] := ⟨none, .slice none 0 0, htn, fun q hq => Nat.le_trans (by have := hg.size; simp at this; omega) (fp_new (Nat.lt_succ_self _) q hq).1, ((((Gr.alloc W _ _).trans (Gr.alloc _ _ _)).trans hg)).trans hgn⟩
  have hw2 : w1.heap.size < w2.heap.size := by obtain ⟨_, _, ht, _, _⟩ := ho; exact ht.lt _ (.inl rfl)
  have hWw : W.heap.size + 2 ≤ w1.heap.size := by have := hg.size; simpa using this
  have b0 := boxes0 (T := w2.heap.size) hg hgn ho rfl
  gi_loopw [7] (fun i X => ∃ (k : Nat) (lv : Value), k ≤ alen ∧ k ≤ 100 ∧ i = .int .i64 k ∧ Duo W X w1.heap.size (Pk aa k) lv (Pk aa k) ∧ Boxes W w1.heap.size w2.heap.size (.slice bo blen bcap) lv X) (fun i _ => alen - (intOf i).toNat)
  case atStart => exact ⟨0, _, Nat.zero_le _, Nat.zero_le _, rfl, b0.1, b0.2⟩
  case round =>
    obtain ⟨k, lv, hk, hk2, rfl, hd, hbx⟩ := hrel
    by_cases hlt : k < alen ∧ k < 100
    · obtain ⟨hlt1, hlt2⟩ := hlt
      obtain ⟨an, aoff, rfl, ha, hck⟩ := hca k hlt1
      have ck := (hd.own.cell ⟨an, aoff + k, none⟩ ha).trans hck
      obtain ⟨xt, yt⟩ := cell_of hbx.ct
      obtain ⟨xl, yl⟩ := cell_of hbx.cl
      obtain ⟨al, cl, rfl⟩ := duo_len hd
      gi_wp2
      gi_region_with (first
        | (refine ⟨trivial, ?_⟩; gi_at_call 14; refine (callsIn_wide.2 (duo_putK (aa k) (hd.gr (Gr.drew _ _)))).mono ?_; rintro e w3 ⟨v3, rfl, hd3, hk3⟩; have ck3 := (hd3.own.cell ⟨an, aoff + k, none⟩ ha).trans hck; obtain ⟨xt3, yt3⟩ := cell_of (hbx.kept hk3).ct; obtain ⟨xl3, yl3⟩ := cell_of (hbx.kept hk3).cl))
      all_goals gi_wp2
      all_goals gi_region_with (first
        | (refine ⟨trivial, ?_⟩; gi_at_call 13; refine (callsIn_wide.2 (duo_refPutK (aa k) (hd3.gr (Gr.drew _ _)))).mono ?_; rintro e w4 ⟨lv4, rfl, hd4, hk4, hl4⟩; obtain ⟨xl4, yl4⟩ := cell_of ((hbx.kept hk3).kept hk4).cl; obtain ⟨al4, cl4, rfl⟩ := duo_len hd4))
      all_goals gi_wp2
      all_goals (go_roundw
                 case rel => exact apart_rel hlt1 hlt2 (by omega) hd4 (hbx.kept hk3) hk4 hl4
                 case measure => go_light; simp only [intOf]; omega)
    · have hkl : (Pk aa k).length ≤ 4096 := (Pk_good aa k).len
      obtain ⟨m, sv, ht, hf, hgW, hs, hdd⟩ := hd
      obtain ⟨xt, yt⟩ := cell_of hbx.ct
      have hTX : w2.heap.size < wr.heap.size := (Array.getElem?_eq_some_iff.1 hbx.ct).1
      by_cases hB : k < alen
      · have h100 : 100 ≤ k := by omega
        gi_wp2_with (first
          | (refine ⟨trivial, ?_⟩; gi_at_call 22; refine (callsIn_wide.2 (all_c _ _ m sv _ ht)).mono ?_; rintro e w3 ⟨rfl, rfl⟩; obtain ⟨xt3, yt3⟩ := cell_of ((hbx.kept (Kept.of_gr (Gr.alloc wr (Obj.cells #[sv] 27) _))).ct))
          | (refine ⟨trivial, ?_⟩; gi_at_call 19; refine (callsIn_wide.2 (copy_quad (ht.gr (Gr.alloc wr (Obj.cells #[sv] 27) (fun _ => False)) (fun _ _ e => e)) hf (hgW.trans (Gr.alloc _ _ _)) (hs.gr (Gr.alloc wr (Obj.cells #[sv] 27) (fun _ => False)) (fun _ _ e => e)) (fun q hq => ⟨by have := (hdd q hq).1; simp; omega, (hdd q hq).2⟩))).mono ?_; rintro e w5 ⟨c, rfl, hq5, hg5⟩))
        obtain ⟨X0, hX0⟩ : ∃ X0, w5.alloc (Obj.cells #[Value.int IntKind.i64 0] 3) = X0 := ⟨_, rfl⟩
        obtain ⟨hs0, hI0, hnb, hsv, hlq, hvq, hq2, hTq⟩ := apart_start hbx ht hs (fun q hq => (hdd q hq).1) hg5 hq5 hX0
        refine (congrArg (fun X => Code.wpIn Fence.wide 3 Try.prog _ _ _ X) hX0).mpr ?_
        refine rangeAll (nb := wr.heap.size) (sv := sv) (xs := Pk aa k) rfl rfl hnb hsv (ApI W w1.heap.size w2.heap.size w5.heap.size (.slice bo blen bcap) lv sv c (Pk aa k)) (fun _ _ => False) ?_ (fun _ _ _ e _ => e) ?_ hI0
          (fun r => { tmps := #[Value.slice ao alen acap, Value.slice bo blen bcap, undef, pt (W.heap.size), pt (W.heap.size + 1), pt (w2.heap.size), pt (w2.heap.size + 1), Value.int IntKind.i64 ↑k, u8, u9, u10, Value.func (Fn.func 26) #[] #[pt wr.heap.size], pt c, pt (w5.heap.size), .int .i64 (r : Int), .string (at_ (Pk aa k) r), undef, Value.bool true, Value.bool false, pt w1.heap.size, Value.int IntKind.i64 ↑k, Value.slice ao alen acap, Value.int IntKind.i64 ↑alen, Value.bool true, Value.bool true, Value.int IntKind.i64 ↑k, Value.bool (decide ((k : Int) < 100)), Value.bool (decide ((k : Int) < 100)), u28, u29, u30, u31, u32, u33, u34, u35, u36, u37, u38, u39, u40, u41, u42, u43, u44, u45, u46, pt w1.heap.size, Value.func (Fn.func 26) #[] #[pt wr.heap.size], pt w1.heap.size, pt c, Value.func (Fn.func 26) #[] #[pt wr.heap.size], .int .i64 (r : Int), .string (at_ (Pk aa k) r), undef, undef, undef, undef, undef, undef, undef, undef, undef, undef, undef, undef, undef, undef, undef, undef, undef, undef, undef, undef, undef, undef, undef, undef, undef, undef, undef, undef, undef, undef, undef, undef, undef, undef, undef, undef, undef, undef, undef, undef, undef, undef, undef, undef, undef, undef, undef, undef, undef, undef, undef, undef, undef, undef, undef, undef, undef, undef, undef, undef], defers := [] }) ?assign ?body ?done ?stop
        · intro r X X' hi t; rw [hs0] at t; exact hi.turn hq2 hTq hlq hvq t
        · intro r X hi; exact hi.told
        case assign =>
          intro lp r X K _ hK
          gi_wp2
          exact hK
        case body =>
          rintro r X hi hr hlt
          rw [hs0] at hlt ⊢
          obtain ⟨lc, hQ, hBx, hN⟩ := hi
          obtain ⟨x0, y0⟩ := cell_of hBx.cb
          obtain ⟨x1, y1⟩ := cell_of hBx.ct
          obtain ⟨x2, y2⟩ := cell_of hBx.cl
          obtain ⟨x3, y3⟩ := cell_of hN
          obtain ⟨gl, cgl, rfl⟩ := hQ.quad.list.1.sv
          have hrl : (r : Int) < ((Pk aa k).length : Int) := by omega
          have hkI : ((Pk aa k).length : Int) ≤ 4096 := by omega
          by_cases hcond : r < blen ∧ r < 100
          · obtain ⟨hc1, hc2⟩ := hcond
            obtain ⟨bb, boff, rfl, hbb, cbr⟩ := hcb r hc1
            have cbX := (World.cell?_of_block (a := ⟨bb, boff + r, none⟩) (hQ.quad.list.2.2.block bb hbb (fun e => e))).trans cbr
            gi_wp2
            gi_region_with (first
              | (refine ⟨trivial, ?_⟩; gi_at_call 14; refine (CallsIn.inRound _ (callsIn_wide.2 (quadE_put (bs r) (hQ.gr0 (Gr.drew _ _)) (fun q e => by rcases e with e | e <;> (subst e; show _ < X.heap.size; omega))))).mono ?_; rintro e w6 ⟨v6, rfl, hQ6, hk6, hE6⟩; obtain ⟨z2, zz2⟩ := cell_of (hBx.kept hk6).cl; obtain ⟨z3, zz3⟩ := cell_of (hk6 _ _ hN (by simp [Other])); obtain ⟨gq, rfl, cgq⟩ := hQ6.quad.list.1.cell hr))
            all_goals gi_wp2
            all_goals exact ap_step hQ6 (hBx.kept hk6) (hk6 _ _ hN (by simp [Other])) (hE6 _ (.inl rfl)) (hE6 _ (.inr rfl)) hq2 hTq hlq hvq
          · obtain ⟨gq, rfl, cgq⟩ := hQ.quad.list.1.cell hr
            by_cases hc1 : r < blen
            · have hc2 : 100 ≤ r := by omega
              gi_wp2
              exact ap_step hQ hBx hN rfl rfl hq2 hTq hlq hvq
            · gi_wp2
              exact ap_step hQ hBx hN rfl rfl hq2 hTq hlq hvq
        case done =>
          rintro X hi hK
          rw [hs0] at hK ⊢
          obtain ⟨lc, hQ, hBx, hN⟩ := hi
          have hQ' := hQ.quad
          clear hQ
          gi_wp2
          gi_loopw [16] (fun i Y => ∃ (r : Nat) (lc : List ByteArray), r ≤ blen ∧ r ≤ 100 ∧ i = .int .i64 r ∧ Quad W Y w1.heap.size lc c (Pk aa k) lv sv ∧ Boxes W w1.heap.size w2.heap.size (.slice bo blen bcap) lv Y ∧ Y.heap[w5.heap.size]? = some (.cells #[.int .i64 ((Pk aa k).length : Int)] 3 (0, 0)) ∧ Y.heap[w5.heap.size + 1]? = some (.deferred (some []))) (fun i _ => blen - (intOf i).toNat)
          case atStart => exact ⟨0, lc, Nat.zero_le _, Nat.zero_le _, rfl, hQ', hBx, hN, hK⟩
          case round =>
            obtain ⟨r, lc2, hr1, hr2, rfl, hQ2, hB2, hN2, hK2⟩ := hrel
            obtain ⟨x0, y0⟩ := cell_of hB2.cb
            obtain ⟨x1, y1⟩ := cell_of hB2.ct
            by_cases hcond : r < blen ∧ r < 100
            · obtain ⟨hc1, hc2⟩ := hcond
              obtain ⟨bb, boff, rfl, hbb, cbr⟩ := hcb r hc1
              have cbX := (World.cell?_of_block (a := ⟨bb, boff + r, none⟩) (hQ2.list.2.2.block bb hbb (fun e => e))).trans cbr
              gi_wp2
              gi_region_with (first
                | (refine ⟨trivial, ?_⟩; gi_at_call 14; refine (callsIn_wide.2 (quad_put (bs r) (hQ2.gr0 (Gr.drew _ _)))).mono ?_; rintro e w6 ⟨v6, rfl, hQ6, hk6⟩))
              all_goals gi_wp2
              all_goals (go_roundw
                         case rel => exact ⟨r + 1, _, by omega, by omega, by simp, hQ6, hB2.kept hk6, hk6 _ _ hN2 (by simp [Other]), hk6 _ _ hK2 (by simp [Other])⟩
                         case measure => go_light; simp only [intOf]; omega)
            · obtain ⟨x2, y2⟩ := cell_of hB2.cr
              obtain ⟨x3, y3⟩ := cell_of hB2.cl
              obtain ⟨x4, y4⟩ := cell_of hN2
              obtain ⟨gl, cgl, rfl⟩ := hQ2.list.1.sv
              by_cases hc1 : r < blen
              · have hc2 : 100 ≤ r := by omega
                gi_wp2
                gi_region_with (first
                  | (refine ⟨trivial, ?_⟩; gi_at_call 18; refine (callsIn_wide.2 (quad_all _ (hQ2.gr0 (Gr.drew _ _)))).mono ?_; rintro e w7 ⟨rfl, hg7⟩; have hk7 := Kept.of_gr ((Gr.drew wr (fun _ => False)).trans hg7); obtain ⟨z3, zz3⟩ := cell_of ((hB2.kept hk7).cl); obtain ⟨z2, zz2⟩ := cell_of ((hB2.kept hk7).cr))
                  | (refine ⟨trivial, ?_⟩; gi_at_call 20; refine (callsIn_wide.2 (quad_len ((hQ2.gr0 (Gr.drew _ _)).gr0 hg7))).mono ?_; rintro e w8 ⟨rfl, rfl⟩))
                all_goals gi_wp2
                all_goals (obtain ⟨e1, e2, e3⟩ := ap_end (hB2.kept hk7) (hk7 _ _ hK2 (by simp [Other])) hq2 hTq (hQ2.list.2.2.trans ((Gr.drew wr (fun _ => False)).trans hg7))
                           have hc5 := (cell_of e2).1
                           show bodyPostM _ _ _ _ _ Exit.ret _ _
                           refine ⟨by simp, .inl ⟨_, _, rfl, run_takeDeferred e1, ?_⟩⟩
                           refine ⟨.bool true, ?_, rfl, e3⟩
                           simp [results, Try.results7, go_sem, hc5])
              · gi_wp2
                gi_region_with (first
                  | (refine ⟨trivial, ?_⟩; gi_at_call 18; refine (callsIn_wide.2 (quad_all _ (hQ2.gr0 (Gr.drew _ _)))).mono ?_; rintro e w7 ⟨rfl, hg7⟩; have hk7 := Kept.of_gr ((Gr.drew wr (fun _ => False)).trans hg7); obtain ⟨z3, zz3⟩ := cell_of ((hB2.kept hk7).cl); obtain ⟨z2, zz2⟩ := cell_of ((hB2.kept hk7).cr))
                  | (refine ⟨trivial, ?_⟩; gi_at_call 20; refine (callsIn_wide.2 (quad_len ((hQ2.gr0 (Gr.drew _ _)).gr0 hg7))).mono ?_; rintro e w8 ⟨rfl, rfl⟩))
                all_goals gi_wp2
                all_goals (obtain ⟨e1, e2, e3⟩ := ap_end (hB2.kept hk7) (hk7 _ _ hK2 (by simp [Other])) hq2 hTq (hQ2.list.2.2.trans ((Gr.drew wr (fun _ => False)).trans hg7))
                           have hc5 := (cell_of e2).1
                           show bodyPostM _ _ _ _ _ Exit.ret _ _
                           refine ⟨by simp, .inl ⟨_, _, rfl, run_takeDeferred e1, ?_⟩⟩
                           refine ⟨.bool true, ?_, rfl, e3⟩
                           simp [results, Try.results7, go_sem, hc5])
        case stop =>
          rintro cc X e _
          exact e.elim
      · gi_wp2_with (first
          | (refine ⟨trivial, ?_⟩; gi_at_call 22; refine (callsIn_wide.2 (all_c _ _ m sv _ ht)).mono ?_; rintro e w3 ⟨rfl, rfl⟩; obtain ⟨xt3, yt3⟩ := cell_of ((hbx.kept (Kept.of_gr (Gr.alloc wr (Obj.cells #[sv] 27) _))).ct))
          | (refine ⟨trivial, ?_⟩; gi_at_call 19; refine (callsIn_wide.2 (copy_quad (ht.gr (Gr.alloc wr (Obj.cells #[sv] 27) (fun _ => False)) (fun _ _ e => e)) hf (hgW.trans (Gr.alloc _ _ _)) (hs.gr (Gr.alloc wr (Obj.cells #[sv] 27) (fun _ => False)) (fun _ _ e => e)) (fun q hq => ⟨by have := (hdd q hq).1; simp; omega, (hdd q hq).2⟩))).mono ?_; rintro e w5 ⟨c, rfl, hq5, hg5⟩))
        obtain ⟨X0, hX0⟩ : ∃ X0, w5.alloc (Obj.cells #[Value.int IntKind.i64 0] 3) = X0 := ⟨_, rfl⟩
        obtain ⟨hs0, hI0, hnb, hsv, hlq, hvq, hq2, hTq⟩ := apart_start hbx ht hs (fun q hq => (hdd q hq).1) hg5 hq5 hX0
        refine (congrArg (fun X => Code.wpIn Fence.wide 3 Try.prog _ _ _ X) hX0).mpr ?_
        refine rangeAll (nb := wr.heap.size) (sv := sv) (xs := Pk aa k) rfl rfl hnb hsv (ApI W w1.heap.size w2.heap.size w5.heap.size (.slice bo blen bcap) lv sv c (Pk aa k)) (fun _ _ => False) ?_ (fun _ _ _ e _ => e) ?_ hI0
          (fun r => { tmps := #[Value.slice ao alen acap, Value.slice bo blen bcap, undef, pt (W.heap.size), pt (W.heap.size + 1), pt (w2.heap.size), pt (w2.heap.size + 1), Value.int IntKind.i64 ↑k, u8, u9, u10, Value.func (Fn.func 26) #[] #[pt wr.heap.size], pt c, pt (w5.heap.size), .int .i64 (r : Int), .string (at_ (Pk aa k) r), undef, Value.bool true, Value.bool false, pt w1.heap.size, Value.int IntKind.i64 ↑k, Value.slice ao alen acap, Value.int IntKind.i64 ↑alen, Value.bool false, Value.bool false, undef, undef, Value.bool false, u28, u29, u30, u31, u32, u33, u34, u35, u36, u37, u38, u39, u40, u41, u42, u43, u44, u45, u46, pt w1.heap.size, Value.func (Fn.func 26) #[] #[pt wr.heap.size], pt w1.heap.size, pt c, Value.func (Fn.func 26) #[] #[pt wr.heap.size], .int .i64 (r : Int), .string (at_ (Pk aa k) r), undef, undef, undef, undef, undef, undef, undef, undef, undef, undef, undef, undef, undef, undef, undef, undef, undef, undef, undef, undef, undef, undef, undef, undef, undef, undef, undef, undef, undef, undef, undef, undef, undef, undef, undef, undef, undef, undef, undef, undef, undef, undef, undef, undef, undef, undef, undef, undef, undef, undef, undef, undef, undef, undef, undef, undef, undef, undef, undef, undef], defers := [] }) ?assign ?body ?done ?stop
        · intro r X X' hi t; rw [hs0] at t; exact hi.turn hq2 hTq hlq hvq t
        · intro r X hi; exact hi.told
        case assign =>
          intro lp r X K _ hK
          gi_wp2
          exact hK
        case body =>
          rintro r X hi hr hlt
          rw [hs0] at hlt ⊢
          obtain ⟨lc, hQ, hBx, hN⟩ := hi
          obtain ⟨x0, y0⟩ := cell_of hBx.cb
          obtain ⟨x1, y1⟩ := cell_of hBx.ct
          obtain ⟨x2, y2⟩ := cell_of hBx.cl
          obtain ⟨x3, y3⟩ := cell_of hN
          obtain ⟨gl, cgl, rfl⟩ := hQ.quad.list.1.sv
          have hrl : (r : Int) < ((Pk aa k).length : Int) := by omega
          have hkI : ((Pk aa k).length : Int) ≤ 4096 := by omega
          by_cases hcond : r < blen ∧ r < 100
          · obtain ⟨hc1, hc2⟩ := hcond
            obtain ⟨bb, boff, rfl, hbb, cbr⟩ := hcb r hc1
            have cbX := (World.cell?_of_block (a := ⟨bb, boff + r, none⟩) (hQ.quad.list.2.2.block bb hbb (fun e => e))).trans cbr
            gi_wp2
            gi_region_with (first
              | (refine ⟨trivial, ?_⟩; gi_at_call 14; refine (CallsIn.inRound _ (callsIn_wide.2 (quadE_put (bs r) (hQ.gr0 (Gr.drew _ _)) (fun q e => by rcases e with e | e <;> (subst e; show _ < X.heap.size; omega))))).mono ?_; rintro e w6 ⟨v6, rfl, hQ6, hk6, hE6⟩; obtain ⟨z2, zz2⟩ := cell_of (hBx.kept hk6).cl; obtain ⟨z3, zz3⟩ := cell_of (hk6 _ _ hN (by simp [Other])); obtain ⟨gq, rfl, cgq⟩ := hQ6.quad.list.1.cell hr))
            all_goals gi_wp2
            all_goals exact ap_step hQ6 (hBx.kept hk6) (hk6 _ _ hN (by simp [Other])) (hE6 _ (.inl rfl)) (hE6 _ (.inr rfl)) hq2 hTq hlq hvq
          · obtain ⟨gq, rfl, cgq⟩ := hQ.quad.list.1.cell hr
            by_cases hc1 : r < blen
            · have hc2 : 100 ≤ r := by omega
              gi_wp2
              exact ap_step hQ hBx hN rfl rfl hq2 hTq hlq hvq
            · gi_wp2
              exact ap_step hQ hBx hN rfl rfl hq2 hTq hlq hvq
        case done =>
          rintro X hi hK
          rw [hs0] at hK ⊢
          obtain ⟨lc, hQ, hBx, hN⟩ := hi
          have hQ' := hQ.quad
          clear hQ
          gi_wp2
          gi_loopw [16] (fun i Y => ∃ (r : Nat) (lc : List ByteArray), r ≤ blen ∧ r ≤ 100 ∧ i = .int .i64 r ∧ Quad W Y w1.heap.size lc c (Pk aa k) lv sv ∧ Boxes W w1.heap.size w2.heap.size (.slice bo blen bcap) lv Y ∧ Y.heap[w5.heap.size]? = some (.cells #[.int .i64 ((Pk aa k).length : Int)] 3 (0, 0)) ∧ Y.heap[w5.heap.size + 1]? = some (.deferred (some []))) (fun i _ => blen - (intOf i).toNat)
          case atStart => exact ⟨0, lc, Nat.zero_le _, Nat.zero_le _, rfl, hQ', hBx, hN, hK⟩
          case round =>
            obtain ⟨r, lc2, hr1, hr2, rfl, hQ2, hB2, hN2, hK2⟩ := hrel
            obtain ⟨x0, y0⟩ := cell_of hB2.cb
            obtain ⟨x1, y1⟩ := cell_of hB2.ct
            by_cases hcond : r < blen ∧ r < 100
            · obtain ⟨hc1, hc2⟩ := hcond
              obtain ⟨bb, boff, rfl, hbb, cbr⟩ := hcb r hc1
              have cbX := (World.cell?_of_block (a := ⟨bb, boff + r, none⟩) (hQ2.list.2.2.block bb hbb (fun e => e))).trans cbr
              gi_wp2
              gi_region_with (first
                | (refine ⟨trivial, ?_⟩; gi_at_call 14; refine (callsIn_wide.2 (quad_put (bs r) (hQ2.gr0 (Gr.drew _ _)))).mono ?_; rintro e w6 ⟨v6, rfl, hQ6, hk6⟩))
              all_goals gi_wp2
              all_goals (go_roundw
                         case rel => exact ⟨r + 1, _, by omega, by omega, by simp, hQ6, hB2.kept hk6, hk6 _ _ hN2 (by simp [Other]), hk6 _ _ hK2 (by simp [Other])⟩
                         case measure => go_light; simp only [intOf]; omega)
            · obtain ⟨x2, y2⟩ := cell_of hB2.cr
              obtain ⟨x3, y3⟩ := cell_of hB2.cl
              obtain ⟨x4, y4⟩ := cell_of hN2
              obtain ⟨gl, cgl, rfl⟩ := hQ2.list.1.sv
              by_cases hc1 : r < blen
              · have hc2 : 100 ≤ r := by omega
                gi_wp2
                gi_region_with (first
                  | (refine ⟨trivial, ?_⟩; gi_at_call 18; refine (callsIn_wide.2 (quad_all _ (hQ2.gr0 (Gr.drew _ _)))).mono ?_; rintro e w7 ⟨rfl, hg7⟩; have hk7 := Kept.of_gr ((Gr.drew wr (fun _ => False)).trans hg7); obtain ⟨z3, zz3⟩ := cell_of ((hB2.kept hk7).cl); obtain ⟨z2, zz2⟩ := cell_of ((hB2.kept hk7).cr))
                  | (refine ⟨trivial, ?_⟩; gi_at_call 20; refine (callsIn_wide.2 (quad_len ((hQ2.gr0 (Gr.drew _ _)).gr0 hg7))).mono ?_; rintro e w8 ⟨rfl, rfl⟩))
                all_goals gi_wp2
                all_goals (obtain ⟨e1, e2, e3⟩ := ap_end (hB2.kept hk7) (hk7 _ _ hK2 (by simp [Other])) hq2 hTq (hQ2.list.2.2.trans ((Gr.drew wr (fun _ => False)).trans hg7))
                           have hc5 := (cell_of e2).1
                           show bodyPostM _ _ _ _ _ Exit.ret _ _
                           refine ⟨by simp, .inl ⟨_, _, rfl, run_takeDeferred e1, ?_⟩⟩
                           refine ⟨.bool true, ?_, rfl, e3⟩
                           simp [results, Try.results7, go_sem, hc5])
              · gi_wp2
                gi_region_with (first
                  | (refine ⟨trivial, ?_⟩; gi_at_call 18; refine (callsIn_wide.2 (quad_all _ (hQ2.gr0 (Gr.drew _ _)))).mono ?_; rintro e w7 ⟨rfl, hg7⟩; have hk7 := Kept.of_gr ((Gr.drew wr (fun _ => False)).trans hg7); obtain ⟨z3, zz3⟩ := cell_of ((hB2.kept hk7).cl); obtain ⟨z2, zz2⟩ := cell_of ((hB2.kept hk7).cr))
                  | (refine ⟨trivial, ?_⟩; gi_at_call 20; refine (callsIn_wide.2 (quad_len ((hQ2.gr0 (Gr.drew _ _)).gr0 hg7))).mono ?_; rintro e w8 ⟨rfl, rfl⟩))
                all_goals gi_wp2
                all_goals (obtain ⟨e1, e2, e3⟩ := ap_end (hB2.kept hk7) (hk7 _ _ hK2 (by simp [Other])) hq2 hTq (hQ2.list.2.2.trans ((Gr.drew wr (fun _ => False)).trans hg7))
                           have hc5 := (cell_of e2).1
                           show bodyPostM _ _ _ _ _ Exit.ret _ _
                           refine ⟨by simp, .inl ⟨_, _, rfl, run_takeDeferred e1, ?_⟩⟩
                           refine ⟨.bool true, ?_, rfl, e3⟩
                           simp [results, Try.results7, go_sem, hc5])
        case stop =>
          rintro cc X e _
          exact e.elim
end Go.Proofs.Ytipdniiamaaolaa
