/-
  Carried over from another seat of ours (U).
-/
import Derived.Test.YtmohehfkbhllpaaKF
import Derived.Test.YtmohehfkbhllpaaBC
import Derived.Test.YtmohehfkbhllpaaBS
import Derived.Maps.AppendAt
import Derived.RegionTactic
import Derived.BigRegion
import Derived.RangeFuncNested
import Derived.RangeFuncBound
import Derived.RangeFuncCalls
import Derived.RangeFuncLeaves
import Derived.Shelf.Abstract
import Derived.Shelf.RegionOpen
import Derived.OwnWalkIn
import Derived.TacticsInMore
import Derived.LoopNIn
import Derived.LoopIn
set_option linter.unusedVariables false
set_option linter.unusedSimpArgs false
namespace Go.Proofs.Ytmohehfkbhllpaa
open Go.RowKit Go.Maps Go.Shelf
attribute [local go_sem] Oper.semAt_some

abbrev nls : Value := .slice none 0 0

set_option maxRecDepth 100000 in
set_option maxHeartbeats 2000000 in
theorem leaf_c (lp bd bt g : Nat) (d : Int) (J0 J1 Jx : World → Prop)
    (hY : ∀ W, J0 W → YieldAt Fence.wide 1 Try.prog lp #[.int .i64 d, pt g] W fun e W' => (e = .returned (.bool true) ∧ J1 W') ∨ (e = .returned (.bool false) ∧ Jx W'))
    (hJ : ∀ W o, J0 W → J0 (W.alloc o)) (hcell : ∀ W, J1 W → W.cell? ⟨bt, 0, none⟩ = some (pt g) ∧ W.cell? ⟨g, 8, none⟩ = some nls)
    (W : World) (hbd : bd < W.heap.size) (hbt : bt < W.heap.size) (hd : W.cell? ⟨bd, 0, none⟩ = some (.int .i64 d)) (hp : W.cell? ⟨bt, 0, none⟩ = some (pt g)) (h0 : J0 W) :
    CallsIn Fence.wide 2 Try.prog 63 #[.func (.yield lp) #[] #[], pt bd, pt bt] W fun e W' => (∃ v, e = .returned v) ∧ (J1 W' ∨ Jx W') := by
  refine callsIn_of_wp Try.func63 rfl trivial ?_ rfl
  simp only [Try.ntmps63, List.size_toArray, List.length_cons, List.length_nil, Nat.reduceAdd, Nat.reduceSub, Array.replicate_succ, Array.replicate_zero, List.push_toArray, List.append_toArray, List.nil_append, List.cons_append]
  obtain ⟨fn, tmps, assign, body, hy, hR⟩ := hY _ (hJ W (.cells #[.func (.yield lp) #[] #[]] 102) h0)
  gi_wp2
  refine hR.mono ?_
  rintro e W3 (⟨rfl, hJ3⟩ | ⟨rfl, hJx3⟩)
  · obtain ⟨k1, k2⟩ := hcell W3 hJ3
    gi_wp2
    gi_loopw [17] (fun i wr => i = .int .i64 0 ∧ J1 wr) (fun _ _ => 0)
    case atStart => exact ⟨rfl, hJ3⟩
    case round =>
      obtain ⟨rfl, hJs⟩ := hrel
      gi_wp2
      go_end0
      exact ⟨⟨_, rfl⟩, .inl hJs⟩
  · gi_wp2
    refine bodyPost_ret (results_none rfl _ _ _) rfl ?_
    exact ⟨⟨_, rfl⟩, .inr hJx3⟩

/-- The two blocks that a loop over a function lays lie as they lay. -/
def Book (B : Nat) (W W' : World) : Prop := W'.heap[B]? = W.heap[B]? ∧ W'.heap[B + 1]? = W.heap[B + 1]?
def allPost (B : Nat) (I : World → Prop) (Ix : Code → World → Prop) (W : World) : Exit → Act → World → Prop
  | .normal, _, W' => Book B W W' ∧ I W'
  | .ret, _, W' => Book B W W' ∧ Ix .ret W'
  | .exit id, _, W' => Book B W W' ∧ Ix (.exit id) W'
  | .goto t, _, W' => Book B W W' ∧ Ix (.goto t) W'
  | .panic _, _, _ => False
  | .outgrown, _, _ => False
/-- Only the two blocks have turned, or new ones. -/
abbrev BookTurn (B : Nat) (W W' : World) : Prop := Gr (fun i => i = B ∨ i = B + 1) W W'
theorem bookTurn_put (B : Nat) (W : World) (o : Obj) : BookTurn B W (W.putObj (B + 1) o) := Gr.of_grown (grownBy_putObj' W (B + 1) o) (fun k e => by cases e; exact .inr rfl)

set_option maxHeartbeats 1000000 in
theorem rangeLeaf {q : Operand} {ps : Array Tmp} {assign body : Code} {Q : Exit → Act → World → Prop} {a : Act} {w : World} {bd bt g : Nat} {d : Int}
    (hg : a.eval q = .func (.func 63) #[] #[pt bd, pt bt]) (hps : ps.size = 2) (hbd : bd < w.heap.size) (hbt : bt < w.heap.size) (hd : w.cell? ⟨bd, 0, none⟩ = some (.int .i64 d)) (hp : w.cell? ⟨bt, 0, none⟩ = some (pt g))
    (I : Nat → World → Prop) (Ix : Code → World → Prop)
    (hI : ∀ k W W', I k W → BookTurn w.heap.size W W' → I k W') (hIx : ∀ c W W', Ix c W → BookTurn w.heap.size W W' → Ix c W')
    (hS : ∀ W, I 1 W → W.cell? ⟨bt, 0, none⟩ = some (pt g) ∧ W.cell? ⟨g, 8, none⟩ = some nls) (h0 : I 0 w) (a₁ : Act)
    (hassign : ∀ (l : Nat) (W : World) (K : Act → World → Prop), K a₁ W →
      assign.wpIn (Fence.wide.inRound l) 1 Try.prog (Exit.then K (fun _ _ _ => False)) { tmps := (ps.zip #[.int .i64 d, pt g]).foldl (fun t (p, v) => t.setIfInBounds p v) a.tmps, defers := [] } W)
    (hbody : ∀ (W : World), I 0 W → w.heap.size + 1 < W.heap.size → body.wpIn (Fence.wide.inRound (w.heap.size + 1)) 1 Try.prog (allPost w.heap.size (I 1) Ix W) a₁ W)
    (hdone : ∀ W, I 1 W → W.heap[w.heap.size]? = some (.deferred (some [])) → Q .normal { a with defers := { target := .collected w.heap.size, args := #[] } :: a.defers } W)
    (hstop : ∀ c W, Ix c W → W.heap[w.heap.size]? = some (.deferred (some [])) → c.wpIn Fence.wide 3 Try.prog Q { a with defers := { target := .collected w.heap.size, args := #[] } :: a.defers } W) :
    (Code.rangeFunc q ps assign body).wpIn Fence.wide 3 Try.prog Q a w := by
  refine wpIn_rangeFunc ?_
  intro fn _
  obtain ⟨B, hB⟩ : ∃ B, w.heap.size = B := ⟨_, rfl⟩
  obtain ⟨rec, hrec⟩ : ∃ rec : LoopState → Option Code → Loop, rec = fun st pe => { state := st, pending := pe, fn, tmps := a.tmps, params := ps, assign, body, defers := B } := ⟨_, rfl⟩
  obtain ⟨W1, hW1⟩ : ∃ W1, (w.alloc (.deferred (some []))).alloc (.loop (rec .ready none)) = W1 := ⟨_, rfl⟩
  have hL1 : W1.heap[B + 1]? = some (.loop (rec .ready none)) := by
    rw [← hW1, ← hB]; have := World.alloc_heap_new (w.alloc (.deferred (some []))) (.loop (rec .ready none)); rwa [World.size_alloc] at this
  have hK1 : W1.heap[B]? = some (.deferred (some [])) := by
    rw [← hW1, ← hB]; exact (Below.heap_alloc _ _ _ (by simp)).trans (World.alloc_heap_new w _)
  have hT1 : BookTurn B w W1 := by rw [← hW1]; exact (Gr.alloc _ _ _).trans (Gr.alloc _ _ _)
  have hc1 : W1.cell? ⟨bd, 0, none⟩ = some (.int .i64 d) := by
    rw [World.cell?_of_block (w' := W1) (w := w) (a := ⟨bd, 0, none⟩) (hT1.block bd hbd (by omega))]; exact hd
  have hc2 : W1.cell? ⟨bt, 0, none⟩ = some (pt g) := by
    rw [World.cell?_of_block (w' := W1) (w := w) (a := ⟨bt, 0, none⟩) (hT1.block bt hbt (by omega))]; exact hp
  rw [hB] at hI hIx hbody hdone hstop
  refine ⟨B + 1, [{ target := .collected B, args := #[] }], W1, { target := .fn (.func 63) #[pt bd, pt bt], args := #[.func (.yield (B + 1)) #[] #[]] }, W1, 63,
    #[.func (.yield (B + 1)) #[] #[]] ++ #[pt bd, pt bt], W1, ?_, ?_, ?_, ?_, fun _ => by omega, ?_⟩
  · rw [← hW1, hrec, ← hB]; exact run_enterLoop_outer _ _ _ _ _
  · simp only [resolve, hg]
    simp [go_sem]
  · intro f' _; trivial
  · simp [invoke, go_sem]
  · let J : Nat → World → Prop := fun k W => I k W ∧ W.heap[B + 1]? = some (.loop (rec .ready none)) ∧ W.heap[B]? = some (.deferred (some []))
    let Jx : World → Prop := fun W => ∃ c, Ix c W ∧ W.heap[B + 1]? = some (.loop (rec .done (some c))) ∧ W.heap[B]? = some (.deferred (some []))
    have hJ0 : J 0 W1 := ⟨hI 0 w W1 h0 hT1, hL1, hK1⟩
    have round : ∀ W, J 0 W → YieldAt Fence.wide 1 Try.prog (B + 1) #[.int .i64 d, pt g] W fun e W' =>
        (e = .returned (.bool true) ∧ J 1 W') ∨ (e = .returned (.bool false) ∧ Jx W') := by
      rintro W ⟨hi, hl, hk⟩
      have hlt : B + 1 < W.heap.size := (Array.getElem?_eq_some_iff.1 hl).1
      have hy := run_yield (P := Try.prog) (args := #[.int .i64 d, pt g]) hl (by rw [hrec]; exact hps.symm)
      rw [hrec] at hy
      refine ⟨fn, _, assign, body, hy, roundIn_of_wpIn trivial (hassign _ W _ ⟨_, run_beginRound hl (by rw [hrec]), ?_⟩)⟩
      obtain ⟨W2, hW2⟩ : ∃ W2, W.putObj (B + 1) (.loop { rec .ready none with state := .busy }) = W2 := ⟨_, rfl⟩
      have hl2 : W2.heap[B + 1]? = some (.loop { rec .ready none with state := .busy }) := by rw [← hW2]; exact World.putObj_heap_same hlt
      have hk2 : W2.heap[B]? = some (.deferred (some [])) := by rw [← hW2]; exact (World.putObj_heap_other (by omega)).trans hk
      have hi2 : I 0 W2 := by rw [← hW2]; exact hI 0 W _ hi (bookTurn_put B W _)
      rw [hW2]
      refine wpIn_mono (hbody W2 hi2 (Array.getElem?_eq_some_iff.1 hl2).1) ?_
      have fin : ∀ (jump : Option Code) (W3 : World), Book B W2 W3 →
          (Instr.endRound (B + 1) jump).run Try.prog W3 = .ok (.bool jump.isNone) (W3.putObj (B + 1) (.loop (rec (if jump.isNone then .ready else .done) jump))) ∧
          (W3.putObj (B + 1) (.loop (rec (if jump.isNone then .ready else .done) jump))).heap[B + 1]? = some (.loop (rec (if jump.isNone then .ready else .done) jump)) ∧
          (W3.putObj (B + 1) (.loop (rec (if jump.isNone then .ready else .done) jump))).heap[B]? = some (.deferred (some [])) := fun jump W3 hk3 => by
        have hl3 := hk3.2.trans hl2
        have := run_endRound (P := Try.prog) jump hl3
        rw [hrec] at this ⊢
        exact ⟨this, World.putObj_heap_same (Array.getElem?_eq_some_iff.1 hl3).1, (World.putObj_heap_other (by omega)).trans (hk3.1.trans hk2)⟩
      rintro e a3 W3 hp
      cases e with
      | normal =>
        obtain ⟨hk3, hi3⟩ := hp
        obtain ⟨hr, hl4, hk4⟩ := fin none W3 hk3
        exact ⟨_, _, hr, .inl ⟨rfl, hI _ _ _ hi3 (bookTurn_put B W3 _), hl4, hk4⟩⟩
      | ret =>
        obtain ⟨hk3, hi3⟩ := hp
        obtain ⟨hr, hl4, hk4⟩ := fin (some .ret) W3 hk3
        exact ⟨_, _, hr, .inr ⟨rfl, .ret, hIx _ _ _ hi3 (bookTurn_put B W3 _), hl4, hk4⟩⟩
      | exit id =>
        obtain ⟨hk3, hi3⟩ := hp
        obtain ⟨hr, hl4, hk4⟩ := fin (some (.exit id)) W3 hk3
        exact ⟨_, _, hr, .inr ⟨rfl, .exit id, hIx _ _ _ hi3 (bookTurn_put B W3 _), hl4, hk4⟩⟩
      | goto t =>
        obtain ⟨hk3, hi3⟩ := hp
        obtain ⟨hr, hl4, hk4⟩ := fin (some (.goto t)) W3 hk3
        exact ⟨_, _, hr, .inr ⟨rfl, .goto t, hIx _ _ _ hi3 (bookTurn_put B W3 _), hl4, hk4⟩⟩
      | panic ch => exact hp.elim
      | outgrown => exact hp.elim
    have behind : ∀ e W2, ((∃ v, e = .returned v) ∧ (J 1 W2 ∨ Jx W2)) → rangePost Fence.wide 3 Try.prog (B + 1) Q { a with defers := [{ target := .collected B, args := #[] }] ++ a.defers } e W2 := by
      rintro e W2 ⟨⟨v, rfl⟩, (⟨hi, hl, hk⟩ | ⟨c, hi, hl, hk⟩)⟩
      · exact ⟨none, _, by have := run_endLoop (P := Try.prog) hl (by rw [hrec]; simp); rw [hrec] at this; exact this, hdone _ (hI _ _ _ hi (bookTurn_put B W2 _)) ((World.putObj_heap_other (by omega)).trans hk)⟩
      · exact ⟨some c, _, by have := run_endLoop (P := Try.prog) hl (by rw [hrec]; simp); rw [hrec] at this; exact this, hstop c _ (hIx _ _ _ hi (bookTurn_put B W2 _)) ((World.putObj_heap_other (by omega)).trans hk)⟩
    refine (leaf_c (B + 1) bd bt g d (J 0) (J 1) Jx round ?_ (fun W h => hS W h.1) W1 (by have := hT1.size; omega) (by have := hT1.size; omega) hc1 hc2 hJ0).mono behind
    rintro W o ⟨hi, hl, hk⟩
    have hta : Gr (fun _ => False) W (W.alloc o) := Gr.alloc _ _ _
    exact ⟨hI 0 W _ hi (hta.mono (fun _ _ e => e.elim)), hta.keep hl (fun e => e), hta.keep hk (fun e => e)⟩
end Go.Proofs.Ytmohehfkbhllpaa

