/-
  Carried over from another seat of ours (AZ).
-/
import Derived.Test.YticgnaikbmnagaaAY
import Derived.Stop.RegionWithIn
set_option linter.unusedVariables false
set_option linter.unusedSimpArgs false
namespace Go.Proofs.Yticgnaikbmnagaa
open Go.RowKit Go.Maps Go.Shelf
attribute [local go_sem] Oper.semAt_some

theorem partsAt_c (W : World) (g o : Nat) (d : Int) : Calls Try.prog 24 #[ptr g o, .int .i64 d] W fun e w' => e = .returned (.func (.func 46) #[] #[pt (W.heap.size + 1), pt W.heap.size]) ∧ w' = (W.alloc (.cells #[ptr g o] 60)).alloc (.cells #[.int .i64 d] 3) := by
  have hmf : ∀ (fn : Fn) (first cap : Array Value) (w : World), (Instr.makeFunc fn first cap).run Try.prog w = .ok (.func fn first cap) w := fun _ _ _ _ => rfl
  go_enter Try.func24, Try.ntmps24
  go_wp2
  go_ret
  exact ⟨rfl, rfl⟩
theorem roundIn_any {n n' : Nat} {P : Program} {l : Nat} {f : FuncId} {tmps : Array Value} {assign body : Code} {w : World} {R : Ending → World → Prop} (h : RoundIn Fence.wide n P l f tmps assign body w R) : RoundIn Fence.wide n' P l f tmps assign body w R :=
  ⟨h.1, fun c cs _ => h.2 c cs (room_wide _)⟩
theorem roundIn_round {n n' i : Nat} {P : Program} {l : Nat} {f : FuncId} {tmps : Array Value} {assign body : Code} {w : World} {R : Ending → World → Prop} (h : RoundIn Fence.wide n P l f tmps assign body w R) : RoundIn (Fence.wide.inRound i) n' P l f tmps assign body w R :=
  ⟨h.1, fun c cs _ => h.2 c cs (room_wide _)⟩
abbrev mk1 (k : Nat) : Deferred := { target := .collected k, args := #[] }
theorem Kx.trans_new {S : Nat → Prop} {B : Nat} {W W1 W' : World} (h : Kx B W W1) (g : Gr S W1 W') (hS : ∀ k, S k → W.heap.size ≤ k) : Kx B W W' :=
  ⟨Nat.le_trans h.1 g.size, fun i h1 h2 => (g.block i (Nat.lt_of_lt_of_le h2 h.1) (fun e => by have := hS i e; omega)).trans (h.2 i h1 h2)⟩
theorem leaves_marks {n : Nat} {fn : Func} {tmps : Array Value} {R : Ending → World → Prop} : ∀ (ks : List Nat) (w : World), ks.Nodup → (∀ k ∈ ks, w.heap[k]? = some (.deferred (some []))) →
    (∀ w', Gr (fun k => k ∈ ks) w w' → LeavesIn Fence.wide n Try.prog fn tmps R [] .returning w') → LeavesInM Fence.wide n Try.prog fn tmps R (ks.map mk1) .returning w
  | [], w, _, _, h => h w (Gr.refl _ _)
  | k :: ks, w, hn, hk, h => by
    obtain ⟨hn1, hn2⟩ := List.nodup_cons.1 hn
    have hk0 := hk k (List.mem_cons_self ..)
    have hp : Gr (fun i => i = k) w (w.putObj k (.deferred none)) := Gr.of_grown (grownBy_putObj' w k _) (fun i e => by cases e; rfl)
    refine ⟨by simp, .inl ⟨k, w.putObj k (.deferred none), rfl, run_takeDeferred hk0, leaves_marks ks _ hn2 (fun i hi => hp.keep (hk i (List.mem_cons_of_mem _ hi)) (fun e => hn1 (e ▸ hi))) (fun w' hw' => h w' ?_)⟩⟩
    exact (hp.mono (fun i _ e => by subst e; exact List.mem_cons_self ..)).trans (hw'.mono (fun i _ e => List.mem_cons_of_mem _ e))
def noPanic (Q : Exit → Act → World → Prop) : Exit → Act → World → Prop
  | .panic _, _, _ => False
  | .normal, a, w => Q .normal a w
  | .ret, a, w => Q .ret a w
  | .exit i, a, w => Q (.exit i) a w
  | .goto t, a, w => Q (.goto t) a w
  | .outgrown, a, w => Q .outgrown a w
theorem noPanic_le {Q : Exit → Act → World → Prop} : ∀ e a w, noPanic Q e a w → Q e a w
  | .panic _, _, _, h => h.elim
  | .normal, _, _, h => h
  | .ret, _, _, h => h
  | .exit _, _, _, h => h
  | .goto _, _, _, h => h
  | .outgrown, _, _, h => h
theorem goL_drop {σ ε : Type} (step : Int → Tm → σ → Except ε σ) (l : List Tm) (d : Int) (s : σ) (j : Nat) (x : Tm) (hx : l[j]? = some x) : goL step (l.drop j) d s = match goT step x d s with | .error e => .error e | .ok s' => goL step (l.drop (j + 1)) d s' := by
  obtain ⟨hj, rfl⟩ := List.getElem?_eq_some_iff.1 hx
  rw [List.drop_eq_getElem_cons hj, goL_cons]
  cases goT step l[j] d s <;> rfl

theorem okL_drop {σ ε : Type} (P : Int → Tm → σ → Prop) (step : Int → Tm → σ → Except ε σ) (l : List Tm) (d : Int) (s : σ) (j : Nat) (x : Tm) (hx : l[j]? = some x) : okL P step (l.drop j) d s = (okT P step x d s ∧ ∀ s', goT step x d s = .ok s' → okL P step (l.drop (j + 1)) d s') := by
  obtain ⟨hj, rfl⟩ := List.getElem?_eq_some_iff.1 hx
  rw [List.drop_eq_getElem_cons hj, okL_cons]
set_option maxRecDepth 100000 in
set_option maxHeartbeats 2000000 in
theorem parts_step (t : Lf) (bs : List Int) (l : List Tm) (ih : ∀ (k : Nat) (x : Tm), l[k]? = some x → PartsLaw x) : PartsLaw (.mk t bs l) := by
  intro σ ε P step A W0 B lp J Jx hJ hJx hAB hAJ hY d s g o bd bt W hd0 hd hok hat hBW h0 hbox
  rw [okT] at hok
  obtain ⟨hP0, hokL⟩ := hok
  refine (callsIn_wide (n := 3)).1 ?_
  refine callsIn_of_wp_marks Try.func46 rfl trivial ?_ rfl
  simp only [Try.ntmps46, List.size_toArray, List.length_cons, List.length_nil, Nat.reduceAdd, Nat.reduceSub, Array.replicate_succ, Array.replicate_zero, List.push_toArray, List.append_toArray, List.nil_append, List.cons_append]
  have hW1g : Gr (fun _ => False) W (W.alloc (.cells #[.func (.yield lp) #[] #[]] 72)) := Gr.alloc _ _ _
  have h1 := hJ s W _ h0 (hW1g.mono (fun _ _ e => e.elim))
  have hk1 : Kx B W (W.alloc (.cells #[.func (.yield lp) #[] #[]] 72)) := Kx.of_gr hW1g (fun _ _ e => e.elim)
  obtain ⟨k1, k2⟩ := hbox s _ h1 hk1
  have hyb := heap_alloc_new W (.cells #[.func (.yield lp) #[] #[]] 72)
  obtain ⟨fn, tmps, assign, body, hy, hR⟩ := hY s d _ g o _ hP0 hat h1 (Nat.le_trans hBW hk1.1)
  obtain ⟨r, hr⟩ : ∃ r, goT step (.mk t bs l) d s = r := ⟨_, rfl⟩
  rw [hr]
  rw [goT] at hr
  replace hr := Lib.hid hr
  gi_wp2
  refine (roundIn_any hR).mono ?_
  rintro e W2 ⟨hk2, (⟨s1, hs1, rfl, h2⟩ | ⟨x, hx, rfl, hJ2⟩)⟩
  · have hkW := hk1.trans hk2
    obtain ⟨m1, m2⟩ := hbox s1 W2 h2 hkW
    have hat2 : At A W2 (.mk t bs l) g o := hat.turn (fun k hk => hAJ s1 W2 h2 k hk)
    obtain ⟨ra, rn, rc, hrow, rfl, hels⟩ := hat2.row
    have hyb2 := hk2.keep hyb hBW
    have hyc := (cell_of hyb2).1
    have hyb1 := hyb
    clear hy hR k1 k2 hyb
    generalize W.alloc (.cells #[.func (.yield lp) #[] #[]] 72) = W1 at *
    have hr1 : goL step l (d + 1) s1 = r := by have := hr.out; rw [hs1] at this; exact this
    replace hr1 := Lib.hid hr1
    gi_wp2
    refine wpIn_loop (fun a w => ∃ (j : Nat) (sj : σ) (ks : List Nat) (u4 u5 u6 u18 u19 u20 u21 u22 u23 u24 u25 u26 u27 u28 u29 u30 u31 u32 u33 u34 u35 u36 : Value), a = { tmps := #[Value.func (Fn.yield lp) #[] #[], pt bd, pt bt, Value.pointer (some { block := W.heap.size, off := 0 }), u4, u5, u6, Value.func (Fn.yield lp) #[] #[], Value.int IntKind.i64 d, ptr g o, Value.bool true, Value.bool false, ptr g o, Value.pointer (some { block := g, off := o }), Value.pointer (some { block := g, off := o + 8 }), Value.slice ra l.length rc, Value.int IntKind.i64 (l.length : Int), Value.int IntKind.i64 (j : Int), u18, u19, u20, u21, u22, u23, u24, u25, u26, u27, u28, u29, u30, u31, u32, u33, u34, u35, u36], defers := ks.map mk1 } ∧ j ≤ l.length ∧ J sj w ∧ Kx B W1 w ∧ ks.Nodup ∧ (∀ k ∈ ks, W.heap.size ≤ k ∧ w.heap[k]? = some (.deferred (some []))) ∧ Hid (goL step (l.drop j) (d + 1) sj = r) ∧ Hid (okL P step (l.drop j) (d + 1) sj)) (fun a _ => l.length - (intOf (a.tmps.getD 17 undef)).toNat) ?start ?round
    case start => exact ⟨0, s1, [], _, _, _, _, _, _, _, _, _, _, _, _, _, _, _, _, _, _, _, _, _, _, rfl, Nat.zero_le _, h2, hk2, List.nodup_nil, (fun _ h => by cases h), hr1, Lib.hid (hokL s1 hs1)⟩
    case round =>
      rintro a w ⟨j, sj, ks, u4, u5, u6, u18, u19, u20, u21, u22, u23, u24, u25, u26, u27, u28, u29, u30, u31, u32, u33, u34, u35, u36, rfl, hj, hJw, hKw, hnd, hks, hrj, hokj⟩
      obtain ⟨n1, n2⟩ := hbox sj w hJw (hk1.trans hKw)
      have hAw : ∀ k, A k → w.heap[k]? = W2.heap[k]? := fun k hk => (hAJ sj w hJw k hk).trans (hAJ s1 W2 h2 k hk).symm
      have hrw : w.cell? ⟨g, o + 8, none⟩ = some (.slice ra l.length rc) := by
        rw [World.cell?_of_block (w' := w) (w := W2) (a := ⟨g, o + 8, none⟩) (hAw g hat.1)]; exact hrow
      have hyw := (cell_of (hKw.keep hyb1 hBW)).1
      by_cases hjl : j < l.length
      · obtain ⟨b, rfl, hrc, hel⟩ := hels (List.ne_nil_of_length_pos (by omega))
        obtain ⟨x, hx⟩ : ∃ x, l[j]? = some x := ⟨_, List.getElem?_eq_getElem hjl⟩
        have hatx : At A w x b (j * 9) := (hel j x hx).turn hAw
        have hjI : (j : Int) < (l.length : Int) := by omega
        have hhx := hgtL_mem l j x hx
        have hdx : d + 1 + hgt x < 9223372036854775807 := by rw [hgt] at hd; omega
        have hd1 : d + 1 < 9223372036854775807 := by omega
        have hll : (l.length : Int) < 9223372036854775807 := by rw [hgt] at hd; omega
        have hw1 : IntKind.i64.wrap (d + 1) = d + 1 := by rw [IntKind.wrap_i64]; omega
        have hw2 : wrap64 (d + 1) = d + 1 := by rw [← IntWalk.i64_left]; exact hw1
        gi_wp2
        refine wpIn_mono ?_ noPanic_le
        gi_region_with (first
          | (refine ⟨trivial, ?_⟩; gi_at_call 24; refine (callsIn_wide.2 (partsAt_c _ _ _ _)).mono ?_; rintro e w1 ⟨rfl, rfl⟩))
        all_goals
          generalize hw5 : World.drew _ = w5
          have g5 : Gr (fun _ => False) w w5 := hw5 ▸ (((Gr.alloc _ _ _).trans (Gr.alloc _ _ _)).trans (Gr.drew _ _))
          have hs5 : w5.heap.size = w.heap.size + 2 := by rw [← hw5]; simp
          have hbt5 : w5.heap[w.heap.size]? = some (.cells #[ptr b (j * 9)] 60 (0, 0)) := by
            rw [← hw5]; exact (heap_alloc_old (w.alloc _) _ (by simp)).trans (heap_alloc_new w _)
          have hbd5 : w5.heap[w.heap.size + 1]? = some (.cells #[.int .i64 (d + 1)] 3 (0, 0)) := by
            rw [← hw5]; have := heap_alloc_new (w.alloc (.cells #[ptr b (j * 9)] 60)) (.cells #[.int .i64 (d + 1)] 3); rw [World.size_alloc] at this; exact this
          clear hw5
          have hBw : B ≤ w.heap.size := Nat.le_trans hBW (hk1.trans hKw).1
          have hJ5 : J sj w5 := hJ sj w w5 hJw (g5.mono (fun _ _ e => e.elim))
          have hK5 : Kx B W1 w5 := hKw.trans (Kx.of_gr g5 (fun _ _ e => e.elim))
          have hm5 : ∀ k ∈ ks, W.heap.size ≤ k ∧ w5.heap[k]? = some (.deferred (some [])) := fun k hk => ⟨(hks k hk).1, g5.keep (hks k hk).2 (fun e => e)⟩
          have hn5 : w.heap.size + 2 ∉ ks := fun hk => by
            have := (Array.getElem?_eq_some_iff.1 (hm5 _ hk).2).1; omega
          have hA5 : ∀ k, A k → w5.heap[k]? = W0.heap[k]? := fun k hk => hAJ sj w5 hJ5 k hk
          have hr5 := hrj.out
          rw [goL_drop step l (d + 1) sj j x hx] at hr5
          replace hr5 := Lib.hid hr5
          have ho5 := hokj.out
          rw [okL_drop P step l (d + 1) sj j x hx] at ho5
          obtain ⟨hox, hon⟩ := ho5
          replace hon := Lib.hid hon
          clear hrow hels hrw hyw hw1 hw2 n1 n2
          simp only [noPanic]
          gi_wp2
          refine rangeParts (ih j x hx) (bd := w.heap.size + 1) (bt := w.heap.size) (g := b) (o := j * 9) (d := d + 1) P step A rfl rfl (by omega) hdx (hatx.turn (fun k hk => (hA5 k hk).trans (hAJ sj w hJw k hk).symm))
            (fun k hk => by have := hAB k hk; omega) (fun s X => J s X ∧ Kx B w5 X) (fun x X => Jx x X ∧ Kx B w5 X) ?hI ?hIx ?hIA ?hbox sj hox ⟨hJ5, Kx.refl _ _⟩ ?a1 ?assign ?body ?done ?stop
          case hI =>
            rintro s X X' ⟨h1, h2⟩ t
            exact ⟨hJ s X X' h1 (t.mono (fun _ _ e => by omega)), h2.trans_new t (fun _ e => e)⟩
          case hIx =>
            rintro s X X' ⟨h1, h2⟩ t
            exact ⟨hJx s X X' h1 (t.mono (fun _ _ e => by omega)), h2.trans_new t (fun _ e => e)⟩
          case hIA =>
            rintro s X ⟨h1, _⟩ k hk
            exact (hAJ s X h1 k hk).trans (hA5 k hk).symm
          case hbox =>
            rintro s X ⟨_, h2⟩
            exact ⟨(cell_of (h2.keep hbd5 (by omega))).1, (cell_of (h2.keep hbt5 hBw)).1⟩
          case assign =>
            intro d' g' o' l' X K hK
            gi_wp2
            exact hK
          case body =>
            rintro s' d' T' g' o' X hP' hT' ⟨h1, h2⟩ hlt
            have hyX := (cell_of ((hK5.trans h2).keep hyb1 hBW)).1
            obtain ⟨fn', tmps', assign', body', hy', hR'⟩ := hY s' d' T' g' o' X hP' (hT'.turn (fun k hk => (hA5 k hk).symm)) h1 (by omega)
            gi_wp2
            refine (roundIn_round hR').mono ?_
            rintro e X3 ⟨hk3, (⟨s3, hs3, rfl, h3⟩ | ⟨x3, hx3, rfl, h3⟩)⟩
            · gi_wp2
              exact ⟨hk3.mono (by omega), s3, hs3, h3, h2.trans hk3⟩
            · gi_wp2
              exact ⟨hk3.mono (by omega), x3, hx3, h3, h2.trans hk3⟩
          case done =>
            rintro s' X hs' ⟨h1, h2⟩ hD hsz
            rw [hs5] at hD
            have hr6 := hr5.out
            rw [hs'] at hr6
            replace hr6 := Lib.hid hr6
            gi_wp2
            refine ⟨⟨j + 1, s', (w.heap.size + 2) :: ks, ⟨by push_cast; rfl, rfl⟩, by omega, h1, hK5.trans h2, List.nodup_cons.2 ⟨hn5, hnd⟩, ?_, hr6, Lib.hid (hon.out s' hs')⟩, by simp only [intOf]; omega⟩
            intro k hk
            rcases List.mem_cons.1 hk with rfl | hk
            · exact ⟨by have := (hk1.trans hK5).1; omega, hD⟩
            · exact ⟨(hm5 k hk).1, h2.keep (hm5 k hk).2 (Nat.le_trans hBW (hm5 k hk).1)⟩
          case stop =>
            rintro x' X hx' ⟨h1, h2⟩ hD hsz
            rw [hs5] at hD
            have hr6 := hr5.out
            rw [hx'] at hr6
            replace hr6 := Lib.hid hr6
            have hm6 : ∀ k ∈ (w.heap.size + 2) :: ks, W.heap.size ≤ k ∧ X.heap[k]? = some (.deferred (some [])) := by
              intro k hk
              rcases List.mem_cons.1 hk with rfl | hk
              · exact ⟨by have := (hk1.trans hK5).1; omega, hD⟩
              · exact ⟨(hm5 k hk).1, h2.keep (hm5 k hk).2 (Nat.le_trans hBW (hm5 k hk).1)⟩
            gi_wp2
            show LeavesInM Fence.wide 3 Try.prog Try.f46 _ _ (List.map mk1 ((w.heap.size + 2) :: ks)) .returning X
            exact leaves_marks ((w.heap.size + 2) :: ks) X (List.nodup_cons.2 ⟨hn5, hnd⟩) (fun k hk => (hm6 k hk).2) (fun w' hw' => ⟨_, results_none rfl _ _ _, ⟨_, rfl⟩, ((hk1.trans hK5).trans h2).trans_new hw' (fun k hk => (hm6 k hk).1), .inr ⟨x', hr6.out.symm, hJx x' X w' h1 (hw'.mono (fun k _ hk => Nat.le_trans hBW (hm6 k hk).1))⟩⟩)
      · obtain rfl : j = l.length := by omega
        have hr2 := hrj.out
        rw [List.drop_length, goL] at hr2
        gi_wp2
        refine leaves_marks ks w hnd (fun k hk => (hks k hk).2) (fun w' hw' => ⟨_, results_none rfl _ _ _, ⟨_, rfl⟩, (hk1.trans hKw).trans_new hw' (fun k hk => (hks k hk).1) , .inl ⟨sj, hr2.symm, hJ sj w w' hJw (hw'.mono (fun k _ hk => Nat.le_trans hBW (hks k hk).1))⟩⟩)
  · have hr1 : .error x = r := by have := hr.out; rw [hx] at this; exact this
    replace hr1 := Lib.hid hr1
    gi_wp2
    exact leaves_marks [] W2 List.nodup_nil (fun _ h => by cases h) (fun w' hw' => ⟨_, results_none rfl _ _ _, ⟨_, rfl⟩, (hk1.trans hk2).trans_new hw' (fun _ h => by cases h), .inr ⟨x, hr1.out.symm, hJx x W2 w' hJ2 (hw'.mono (fun _ _ h => by cases h))⟩⟩)
theorem parts_law : ∀ (n : Nat) (T : Tm), hgt T ≤ n → PartsLaw T
  | 0, .mk t bs l, h => by rw [hgt] at h; omega
  | n + 1, .mk t bs l, h => parts_step t bs l (fun k x hx => parts_law n x (by have := hgtL_mem l k x hx; rw [hgt] at h; omega))
theorem parts_all (T : Tm) : PartsLaw T := parts_law (hgt T) T (Nat.le_refl _)
end Go.Proofs.Yticgnaikbmnagaa



