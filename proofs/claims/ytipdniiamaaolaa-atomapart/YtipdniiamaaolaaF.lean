/-
  Going over what All gives: the function's own walk, and a law for whoever goes over it.
-/
import Derived.Test.YtipdniiamaaolaaE
import Derived.RangeFuncNested
import Derived.RangeFuncBound
import Derived.RangeFuncCalls
import Derived.RangeFuncLeaves
import Derived.Shelf.Abstract
import Derived.Shelf.RegionOpen
import Derived.OwnWalkIn
import Derived.TacticsInMore
import Derived.LoopNIn
import Derived.LoopIn
namespace Go.Proofs.Ytipdniiamaaolaa
open Go.RowKit Go.Maps Go.WideMaps Go.Shelf
attribute [local go_sem] Oper.semAt_some

/-- The name at a place. -/
def at_ (l : List ByteArray) (k : Nat) : ByteArray := l.getD k ⟨#[]⟩

set_option maxRecDepth 100000 in
set_option maxHeartbeats 2000000 in
theorem iter_c (lp nb g cap : Nat) (xs : List ByteArray) (hlen : xs.length ≤ 4096) (J : Nat → World → Prop) (Jx : World → Prop)
    (hY : ∀ k W, J k W → k < xs.length → YieldAt Fence.wide 1 Try.prog lp #[.int .i64 (k : Int), .string (at_ xs k)] W fun e W' =>
      (e = .returned (.bool true) ∧ J (k + 1) W') ∨ (e = .returned (.bool false) ∧ Jx W'))
    (hcell : ∀ k W, J k W → k < xs.length → W.cell? ⟨g, k, none⟩ = some (.string (at_ xs k)))
    (W : World) (hB : W.cell? ⟨nb, 0, none⟩ = some (.slice (some ⟨g, 0, none⟩) xs.length cap)) (h0 : J 0 W) :
    CallsIn Fence.wide 2 Try.prog 26 #[.func (.yield lp) #[] #[], pt nb] W fun e W' => (∃ v, e = .returned v) ∧ (J xs.length W' ∨ Jx W') := by
  refine callsIn_of_wp Try.func26 rfl trivial ?_ rfl
  simp only [Try.ntmps26, List.size_toArray, List.length_cons, List.length_nil, Nat.reduceAdd, Nat.reduceSub, Array.replicate_succ, Array.replicate_zero, List.push_toArray, List.append_toArray, List.nil_append, List.cons_append]
  gi_wp2
  gi_loopw [7] (fun i wr => ∃ k : Nat, k ≤ xs.length ∧ i = .int .i64 k ∧ J k wr) (fun i _ => xs.length - (intOf i).toNat)
  case atStart => exact ⟨0, Nat.zero_le _, rfl, h0⟩
  case round =>
    obtain ⟨k, hk, rfl, hJs⟩ := hrel
    by_cases hlt : k < xs.length
    · obtain ⟨fn, tmps, assign, body, hy, hR⟩ := hY k wr hJs hlt
      have hcx := hcell k wr hJs hlt
      gi_wp2
      refine hR.mono ?_
      rintro e W3 (⟨rfl, hJ3⟩ | ⟨rfl, hJx3⟩)
      · gi_wp2
        go_roundw
        case rel => exact ⟨k + 1, by omega, by simp, hJ3⟩
        case measure => simp [intOf]; omega
      · gi_wp2
        refine bodyPost_ret (results_none rfl _ _ _) rfl ?_
        exact ⟨⟨_, rfl⟩, .inr hJx3⟩
    · obtain rfl : k = xs.length := by omega
      gi_wp2
      go_end0
      exact ⟨⟨_, rfl⟩, .inl hJs⟩

set_option maxRecDepth 100000 in
set_option maxHeartbeats 2000000 in
theorem iter0_c (lp nb cap : Nat) (a : Option Addr) (J : Nat → World → Prop) (W : World) (hB : W.cell? ⟨nb, 0, none⟩ = some (.slice a 0 cap)) (h0 : J 0 W) :
    CallsIn Fence.wide 2 Try.prog 26 #[.func (.yield lp) #[] #[], pt nb] W fun e W' => (∃ v, e = .returned v) ∧ J 0 W' := by
  refine callsIn_of_wp Try.func26 rfl trivial ?_ rfl
  simp only [Try.ntmps26, List.size_toArray, List.length_cons, List.length_nil, Nat.reduceAdd, Nat.reduceSub, Array.replicate_succ, Array.replicate_zero, List.push_toArray, List.append_toArray, List.nil_append, List.cons_append]
  gi_wp2
  gi_loopw [7] (fun i wr => i = .int .i64 0 ∧ J 0 wr) (fun _ _ => 0)
  case atStart => exact ⟨rfl, h0⟩
  case round =>
    obtain ⟨rfl, hJs⟩ := hrel
    gi_wp2
    go_end0
    exact ⟨⟨_, rfl⟩, hJs⟩

/-- The slice sv holds the names xs. -/
def Snap (W : World) (sv : Value) (xs : List ByteArray) : Prop :=
  xs.length ≤ 4096 ∧ ((xs = [] ∧ ∃ a cap, sv = .slice a 0 cap) ∨ ∃ g cap, sv = .slice (some ⟨g, 0, none⟩) xs.length cap ∧ ∀ k, k < xs.length → W.cell? ⟨g, k, none⟩ = some (.string (at_ xs k)))
theorem Tab.snap {W : World} {b : Nat} {m : Option Nat} {sv : Value} {l : List ByteArray} (h : Tab W b m sv l) : Snap W sv l := by
  refine ⟨h.good.len, ?_⟩
  rcases h.row.2 with ⟨rfl, e⟩ | ⟨g, cap, cur, rfl, _⟩
  · exact .inl ⟨List.eq_nil_of_length_eq_zero e, _, _, rfl⟩
  · exact .inr ⟨g, cap, rfl, fun k hk => h.at k hk⟩

/-- The two blocks that a loop over a function lays lie as they lay. -/
def Book (B : Nat) (W W' : World) : Prop := W'.heap[B]? = W.heap[B]? ∧ W'.heap[B + 1]? = W.heap[B + 1]?

def allPost (B : Nat) (I : World → Prop) (Ix : Code → World → Prop) (W : World) : Exit → Act → World → Prop
  | .normal, _, W' => Book B W W' ∧ I W'
  | .ret, _, W' => Book B W W' ∧ Ix .ret W'
  | .exit id, _, W' => Book B W W' ∧ Ix (.exit id) W'
  | .goto t, _, W' => Book B W W' ∧ Ix (.goto t) W'
  | .panic _, _, _ => False
  | .outgrown, _, _ => False

/-- Only the two blocks have turned. -/
abbrev BookTurn (B : Nat) (W W' : World) : Prop := Gr (fun i => i = B ∨ i = B + 1) W W'
theorem bookTurn_put (B : Nat) (W : World) (o : Obj) : BookTurn B W (W.putObj (B + 1) o) := Gr.of_grown (grownBy_putObj' W (B + 1) o) (fun k e => by cases e; exact .inr rfl)

theorem rangeAll {g : Operand} {ps : Array Tmp} {assign body : Code} {Q : Exit → Act → World → Prop} {a : Act} {w : World} {nb : Nat} {sv : Value} {xs : List ByteArray}
    (hg : a.eval g = .func (.func 26) #[] #[pt nb]) (hps : ps.size = 2) (hnb : w.cell? ⟨nb, 0, none⟩ = some sv) (hsn : Snap w sv xs)
    (I : Nat → World → Prop) (Ix : Code → World → Prop)
    (hI : ∀ k W W', I k W → BookTurn w.heap.size W W' → I k W') (hIx : ∀ c W W', Ix c W → BookTurn w.heap.size W W' → Ix c W')
    (hS : ∀ k W, I k W → Snap W sv xs) (h0 : I 0 w) (a₁ : Nat → Act)
    (hassign : ∀ (l k : Nat) (W : World) (K : Act → World → Prop), k < xs.length → K (a₁ k) W →
      assign.wpIn (Fence.wide.inRound l) 1 Try.prog (Exit.then K (fun _ _ _ => False)) { tmps := (ps.zip #[.int .i64 (k : Int), .string (at_ xs k)]).foldl (fun t (p, v) => t.setIfInBounds p v) a.tmps, defers := [] } W)
    (hbody : ∀ (k : Nat) (W : World), I k W → k < xs.length → w.heap.size + 1 < W.heap.size → body.wpIn (Fence.wide.inRound (w.heap.size + 1)) 1 Try.prog (allPost w.heap.size (I (k + 1)) Ix W) (a₁ k) W)
    (hdone : ∀ W, I xs.length W → W.heap[w.heap.size]? = some (.deferred (some [])) → Q .normal { a with defers := { target := .collected w.heap.size, args := #[] } :: a.defers } W)
    (hstop : ∀ c W, Ix c W → W.heap[w.heap.size]? = some (.deferred (some [])) → c.wpIn Fence.wide 3 Try.prog Q { a with defers := { target := .collected w.heap.size, args := #[] } :: a.defers } W) :
    (Code.rangeFunc g ps assign body).wpIn Fence.wide 3 Try.prog Q a w := by
  refine wpIn_rangeFunc ?_
  intro fn _
  obtain ⟨B, hB⟩ : ∃ B, w.heap.size = B := ⟨_, rfl⟩
  obtain ⟨rec, hrec⟩ : ∃ rec : LoopState → Option Code → Loop, rec = fun st pe => { state := st, pending := pe, fn, tmps := a.tmps, params := ps, assign, body, defers := B } := ⟨_, rfl⟩
  obtain ⟨W1, hW1⟩ : ∃ W1, (w.alloc (.deferred (some []))).alloc (.loop (rec .ready none)) = W1 := ⟨_, rfl⟩
  have hL1 : W1.heap[B + 1]? = some (.loop (rec .ready none)) := by
    rw [← hW1, ← hB]; have := World.alloc_heap_new (w.alloc (.deferred (some []))) (.loop (rec .ready none)); rwa [World.size_alloc] at this
  have hK1 : W1.heap[B]? = some (.deferred (some [])) := by
    rw [← hW1, ← hB]; exact (Below.heap_alloc _ _ _ (by simp)).trans (World.alloc_heap_new w _)
  have hT1 : BookTurn B w W1 := by rw [← hW1]; exact (Gr.alloc _ _ _).trans (Gr.alloc _ _ _)
  have hc1 : W1.cell? ⟨nb, 0, none⟩ = some sv := by
    have hlt : nb < w.heap.size := by
      simp only [World.cell?] at hnb
      rcases hh : w.heap[nb]? with _ | o
      · rw [hh] at hnb; cases hnb
      · exact (Array.getElem?_eq_some_iff.1 hh).1
    rw [World.cell?_of_block (w' := W1) (w := w) (a := ⟨nb, 0, none⟩) (hT1.block nb hlt (by omega))]; exact hnb
  rw [hB] at hI hIx hbody hdone hstop
  refine ⟨B + 1, [{ target := .collected B, args := #[] }], W1, { target := .fn (.func 26) #[pt nb], args := #[.func (.yield (B + 1)) #[] #[]] }, W1, 26,
    #[.func (.yield (B + 1)) #[] #[]] ++ #[pt nb], W1, ?_, ?_, ?_, ?_, fun _ => by omega, ?_⟩
  · rw [← hW1, hrec, ← hB]; exact run_enterLoop_outer _ _ _ _ _
  · simp only [resolve, hg]
    simp [go_sem]
  · intro f' _; trivial
  · simp [invoke, go_sem]
  · let J : Nat → World → Prop := fun k W => I k W ∧ W.heap[B + 1]? = some (.loop (rec .ready none)) ∧ W.heap[B]? = some (.deferred (some []))
    let Jx : World → Prop := fun W => ∃ c, Ix c W ∧ W.heap[B + 1]? = some (.loop (rec .done (some c))) ∧ W.heap[B]? = some (.deferred (some []))
    have hJ0 : J 0 W1 := ⟨hI 0 w W1 h0 hT1, hL1, hK1⟩
    have round : ∀ k W, J k W → k < xs.length → YieldAt Fence.wide 1 Try.prog (B + 1) #[.int .i64 (k : Int), .string (at_ xs k)] W fun e W' =>
        (e = .returned (.bool true) ∧ J (k + 1) W') ∨ (e = .returned (.bool false) ∧ Jx W') := by
      rintro k W ⟨hi, hl, hk⟩ hlen
      have hlt : B + 1 < W.heap.size := (Array.getElem?_eq_some_iff.1 hl).1
      have hy := run_yield (P := Try.prog) (args := #[.int .i64 (k : Int), .string (at_ xs k)]) hl (by rw [hrec]; exact hps.symm)
      rw [hrec] at hy
      refine ⟨fn, _, assign, body, hy, roundIn_of_wpIn trivial (hassign _ k W _ hlen ⟨_, run_beginRound hl (by rw [hrec]), ?_⟩)⟩
      obtain ⟨W2, hW2⟩ : ∃ W2, W.putObj (B + 1) (.loop { rec .ready none with state := .busy }) = W2 := ⟨_, rfl⟩
      have hl2 : W2.heap[B + 1]? = some (.loop { rec .ready none with state := .busy }) := by rw [← hW2]; exact World.putObj_heap_same hlt
      have hk2 : W2.heap[B]? = some (.deferred (some [])) := by rw [← hW2]; exact (World.putObj_heap_other (by omega)).trans hk
      have hi2 : I k W2 := by rw [← hW2]; exact hI k W _ hi (bookTurn_put B W _)
      rw [hW2]
      refine wpIn_mono (hbody k W2 hi2 hlen (Array.getElem?_eq_some_iff.1 hl2).1) ?_
      have fin : ∀ (jump : Option Code) (W3 : World), Book B W2 W3 →
          (Instr.endRound (B + 1) jump).run Try.prog W3 = .ok (.bool jump.isNone) (W3.putObj (B + 1) (.loop (rec (if jump.isNone then .ready else .done) jump))) ∧
          (W3.putObj (B + 1) (.loop (rec (if jump.isNone then .ready else .done) jump))).heap[B + 1]? = some (.loop (rec (if jump.isNone then .ready else .done) jump)) ∧
          (W3.putObj (B + 1) (.loop (rec (if jump.isNone then .ready else .done) jump))).heap[B]? = some (.deferred (some [])) := fun jump W3 hk3 => by
        have hl3 := hk3.2.trans hl2
        have := run_endRound (P := Try.prog) jump hl3
        rw [hrec] at this ⊢
        exact ⟨this, World.putObj_heap_same (Array.getElem?_eq_some_iff.1 hl3).1, (World.putObj_heap_other (by omega)).trans (hk3.1.trans hk2)⟩
      rintro e a3 W3 hp
      cases e with
      | normal =>
        obtain ⟨hk3, hi3⟩ := hp
        obtain ⟨hr, hl4, hk4⟩ := fin none W3 hk3
        exact ⟨_, _, hr, .inl ⟨rfl, hI _ _ _ hi3 (bookTurn_put B W3 _), hl4, hk4⟩⟩
      | ret =>
        obtain ⟨hk3, hi3⟩ := hp
        obtain ⟨hr, hl4, hk4⟩ := fin (some .ret) W3 hk3
        exact ⟨_, _, hr, .inr ⟨rfl, .ret, hIx _ _ _ hi3 (bookTurn_put B W3 _), hl4, hk4⟩⟩
      | exit id =>
        obtain ⟨hk3, hi3⟩ := hp
        obtain ⟨hr, hl4, hk4⟩ := fin (some (.exit id)) W3 hk3
        exact ⟨_, _, hr, .inr ⟨rfl, .exit id, hIx _ _ _ hi3 (bookTurn_put B W3 _), hl4, hk4⟩⟩
      | goto t =>
        obtain ⟨hk3, hi3⟩ := hp
        obtain ⟨hr, hl4, hk4⟩ := fin (some (.goto t)) W3 hk3
        exact ⟨_, _, hr, .inr ⟨rfl, .goto t, hIx _ _ _ hi3 (bookTurn_put B W3 _), hl4, hk4⟩⟩
      | panic ch => exact hp.elim
      | outgrown => exact hp.elim
    have behind : ∀ e W2, ((∃ v, e = .returned v) ∧ (J xs.length W2 ∨ Jx W2)) → rangePost Fence.wide 3 Try.prog (B + 1) Q { a with defers := [{ target := .collected B, args := #[] }] ++ a.defers } e W2 := by
      rintro e W2 ⟨⟨v, rfl⟩, (⟨hi, hl, hk⟩ | ⟨c, hi, hl, hk⟩)⟩
      · exact ⟨none, _, by have := run_endLoop (P := Try.prog) hl (by rw [hrec]; simp); rw [hrec] at this; exact this, hdone _ (hI _ _ _ hi (bookTurn_put B W2 _)) ((World.putObj_heap_other (by omega)).trans hk)⟩
      · exact ⟨some c, _, by have := run_endLoop (P := Try.prog) hl (by rw [hrec]; simp); rw [hrec] at this; exact this, hstop c _ (hIx _ _ _ hi (bookTurn_put B W2 _)) ((World.putObj_heap_other (by omega)).trans hk)⟩
    rcases hsn.2 with ⟨rfl, ao, cap, rfl⟩ | ⟨gb, cap, rfl, _⟩
    · exact (iter0_c (B + 1) nb cap ao J W1 hc1 hJ0).mono fun e W2 ⟨he, hj⟩ => behind e W2 ⟨he, .inl hj⟩
    · refine (iter_c (B + 1) nb gb cap xs hsn.1 J Jx round ?_ W1 hc1 hJ0).mono behind
      rintro k W ⟨hi, _, _⟩ hk
      rcases (hS k W hi).2 with ⟨rfl, _⟩ | ⟨g', cap', e, hc⟩
      · simp at hk
      · injection e with e1
        cases e1
        exact hc k hk

/-- No name: no round. -/
theorem rangeNone {g : Operand} {ps : Array Tmp} {assign body : Code} {Q : Exit → Act → World → Prop} {a : Act} {w : World} {nb : Nat} {sv : Value}
    (hg : a.eval g = .func (.func 26) #[] #[pt nb]) (hps : ps.size = 2) (hnb : w.cell? ⟨nb, 0, none⟩ = some sv) (hsn : Snap w sv [])
    (hdone : ∀ W, Gr (fun i => w.heap.size ≤ i) w W → W.heap[w.heap.size]? = some (.deferred (some [])) → Q .normal { a with defers := { target := .collected w.heap.size, args := #[] } :: a.defers } W) :
    (Code.rangeFunc g ps assign body).wpIn Fence.wide 3 Try.prog Q a w := by
  refine rangeAll hg hps hnb hsn (fun _ X => Gr (fun i => w.heap.size ≤ i) w X) (fun _ _ => False) (fun k X X' h t => h.trans' t (fun i hi e => by omega)) (fun _ _ _ e _ => e) ?_ (Gr.refl _ _) (fun _ => a)
    (fun _ k _ _ h => by simp at h) (fun k _ _ h => by simp at h) hdone (fun _ _ e _ => e.elim)
  intro k X h
  refine ⟨hsn.1, ?_⟩
  rcases hsn.2 with h0 | ⟨g', cap, e, _⟩
  · exact .inl h0
  · exact .inr ⟨g', cap, e, fun k hk => by simp at hk⟩
end Go.Proofs.Ytipdniiamaaolaa
