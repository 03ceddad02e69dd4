/-
  DgramCounts: what was sent and twinned is in flight, in a box, taken, or lost.
-/
import Derived.Test.YtjffhnpoipolfaaS
set_option linter.unusedVariables false
set_option linter.unusedSimpArgs false
namespace Go.Proofs.Ytjffhnpoipolfaa
open Go.RowKit Go.Maps Go.WideMaps
variable {S S' : Nat → Prop} {W W1 W' : World}

/-- How many are in the boxes of the nodes up to n. -/
def bsum (q : Option Int → List Dg) : Nat → Nat
  | 0 => 0
  | n + 1 => bsum q n + (q (some ((n : Int) + 1))).length
theorem bsum_none (q : Option Int → List Dg) (l : List Dg) (n : Nat) : bsum (upd q none l) n = bsum q n := by
  induction n with
  | zero => rfl
  | succ n ih => simp only [bsum, ih, upd_other _ _ (show some ((n : Int) + 1) ≠ none by simp)]
theorem bsum_far (q : Option Int → List Dg) (l : List Dg) (k : Int) (n : Nat) (h : (n : Int) < k) : bsum (upd q (some k) l) n = bsum q n := by
  induction n with
  | zero => rfl
  | succ n ih => simp only [bsum]; rw [ih (by omega), upd_other _ _ (show some ((n : Int) + 1) ≠ some k by simp; omega)]
theorem bsum_upd (q : Option Int → List Dg) (l : List Dg) (k : Int) (n : Nat) (h1 : 1 ≤ k) (h2 : k ≤ (n : Int)) : bsum (upd q (some k) l) n + (q (some k)).length = bsum q n + l.length := by
  induction n with
  | zero => omega
  | succ n ih =>
    simp only [bsum]
    by_cases e : k = (n : Int) + 1
    · subst e; rw [bsum_far _ _ _ _ (by omega), upd_same]; omega
    · rw [upd_other _ _ (show some ((n : Int) + 1) ≠ some k by simp; omega)]
      have := ih (by omega)
      omega
/-- All that there is. -/
structure Ct (s : Ns) (n all : Nat) : Prop where
  nodes : s.nodes = (n : Int)
  all : all = (s.q none).length + bsum s.q n + s.lost
  to : ∀ d ∈ s.q none, 1 ≤ d.t ∧ d.t ≤ (n : Int)
/-- One more, if a call has put one into flight. -/
def up (k c : Int) : Nat := if (k = 0 ∨ k = 3) ∧ c = 0 then 1 else 0
theorem put_ct {s s' : Ns} {n all : Nat} (h : Ct s n all) {f t : Int} {x : Nat} {l : List Nat} {sp : Bool} (hp : Put s s' f t x l sp) (ht : 1 ≤ t ∧ t ≤ (n : Int)) (hn : s'.nodes = s.nodes) : Ct s' n (all + 1) := by
  have ha := h.all
  rcases hp with ⟨_, hl, bk, hq⟩ | ⟨_, hl, hq⟩
  · refine ⟨hn.trans h.nodes, ?_, fun d hd => ?_⟩
    · rw [hq, bsum_none, upd_same, List.length_append, hl]; simp; omega
    · rw [hq, upd_same] at hd
      rcases List.mem_append.1 hd with hd | hd
      · exact h.to d hd
      · rw [List.mem_singleton] at hd; subst hd; exact ht
  · exact ⟨hn.trans h.nodes, by rw [hq, hl]; omega, by rw [hq]; exact h.to⟩
theorem ct_step {s s' : Ns} {n all : Nat} (h : Ct s n all) {k f t i a : Int} {m : Nat} {l : List Nat} {d : Dv} {ok : Bool} {c : Int} (ho : Outc s s' k f t i a m l d ok c) (hn : s'.nodes = s.nodes) :
    ∃ all', Ct s' n all' ∧ all' + (if ok = true then 1 else 0) = all + up k c := by
  have ha := h.all
  have hnn := h.nodes
  rcases ho with ⟨_, rfl, rfl, hb⟩ | ⟨_, rfl, rfl, hg⟩ | ⟨rfl, rfl, rfl, hnod, h1, h2, D, r, hq, _, hq'⟩
  · refine ⟨all, h, ?_⟩
    have : up k c = 0 := by
      unfold up
      rw [if_neg]
      rintro ⟨_, rfl⟩
      rcases hb with ⟨_, _, e⟩ | ⟨_, _, _, e⟩ | ⟨_, _, e⟩ | ⟨_, e, _⟩ | ⟨_, e, _⟩ | ⟨_, _, e⟩ <;> omega
    rw [this]; rfl
  · rcases hg with ⟨rfl, hm, _, _, hp⟩ | ⟨_, hg⟩
    · refine ⟨all + 1, put_ct h hp ?_ hn, by simp [up]⟩
      simp only [may, nod, Bool.and_eq_true, decide_eq_true_eq] at hm
      omega
    rcases hg with ⟨rfl, x, D, _, hD, hc⟩ | ⟨rfl, x, D, _, hD, h2, h3⟩ | ⟨rfl, x, D, _, hD, hp⟩ | ⟨rfl, x, D, j, _, hD, _, _, _, h2, h3⟩ | ⟨rfl, _, _, rfl⟩ | ⟨rfl, hnod, h2, h3⟩
    · have hi : x < (s.q none).length := (List.getElem?_eq_some_iff.1 hD).1
      have hDt := h.to D (List.mem_of_getElem? hD)
      have hle : ((s.q none).eraseIdx x).length = (s.q none).length - 1 := List.length_eraseIdx_of_lt hi
      have hto : ∀ d ∈ (s.q none).eraseIdx x, 1 ≤ d.t ∧ d.t ≤ (n : Int) := fun d hd => h.to d ((List.eraseIdx_sublist _ _).subset hd)
      refine ⟨all, ?_, by simp [up]⟩
      rcases hc with ⟨_, hl, hq⟩ | ⟨_, hl, hq⟩
      · refine ⟨hn.trans hnn, ?_, ?_⟩
        · have hb := bsum_upd (upd s.q none ((s.q none).eraseIdx x)) (s.q (some D.t) ++ [D]) D.t n hDt.1 hDt.2
          rw [bsum_none, upd_other _ _ (show some D.t ≠ none by simp), List.length_append] at hb
          rw [hq, upd_other _ _ (show none ≠ some D.t by simp), upd_same, hl, hle]
          simp only [List.length_cons, List.length_nil] at hb
          omega
        · rw [hq, upd_other _ _ (show none ≠ some D.t by simp), upd_same]; exact hto
      · exact ⟨hn.trans hnn, by rw [hq, bsum_none, upd_same, hl, hle]; omega, by rw [hq, upd_same]; exact hto⟩
    · have hi : x < (s.q none).length := (List.getElem?_eq_some_iff.1 hD).1
      have hle : ((s.q none).eraseIdx x).length = (s.q none).length - 1 := List.length_eraseIdx_of_lt hi
      refine ⟨all, ⟨hn.trans hnn, by rw [h3, bsum_none, upd_same, h2, hle]; omega, ?_⟩, by simp [up]⟩
      rw [h3, upd_same]
      exact fun d hd => h.to d ((List.eraseIdx_sublist _ _).subset hd)
    · exact ⟨all + 1, put_ct h hp (h.to D (List.mem_of_getElem? hD)) hn, by simp [up]⟩
    · refine ⟨all, ⟨hn.trans hnn, by rw [h3, bsum_none, upd_same, h2, List.length_set]; omega, ?_⟩, by simp [up]⟩
      rw [h3, upd_same]
      intro d hd
      rcases List.mem_or_eq_of_mem_set hd with hd | rfl
      · exact h.to d hd
      · exact h.to D (List.mem_of_getElem? hD)
    · exact ⟨all, h, by simp [up]⟩
    · simp only [nod, Bool.and_eq_true, decide_eq_true_eq] at hnod
      have hb := bsum_upd s.q [] f n hnod.1 (by omega)
      refine ⟨all, ⟨hn.trans hnn, ?_, ?_⟩, by simp [up]⟩
      · rw [h3, upd_other _ _ (show none ≠ some f by simp), h2]; simp only [List.length_nil] at hb; omega
      · rw [h3, upd_other _ _ (show none ≠ some f by simp)]; exact h.to
  · simp only [nod, Bool.and_eq_true, decide_eq_true_eq] at hnod
    have hb := bsum_upd s.q r f n hnod.1 (by omega)
    rw [hq, List.length_cons] at hb
    refine ⟨all - 1, ⟨hn.trans hnn, ?_, ?_⟩, ?_⟩
    · rw [hq', upd_other _ _ (show none ≠ some f by simp), h2]; omega
    · rw [hq', upd_other _ _ (show none ≠ some f by simp)]; exact h.to
    · simp [up]; omega
theorem kd_bounds (k : Int) : 0 ≤ kd k ∧ kd k ≤ 6 := by unfold kd; split <;> omega
set_option maxRecDepth 20000 in
set_option maxHeartbeats 800000 in
theorem counts_bad (W : World) (nodes : Int) (v : Value) (h : nod nodes 64 = false) : Calls Try.prog 5 #[.int .i64 nodes, v] W fun e w' => e = .returned (.bool true) ∧ G0 W w' := by
  go_enter Try.func5, Try.ntmps5
  go_wp2_with fail
  refine (alive_c W).mono ?_
  rintro e w1 ⟨rfl, hg1⟩
  go_wp2_with fail
  refine (new_bad _ _ h).mono ?_
  rintro e w2 ⟨rfl, rfl⟩
  go_wp2
  go_ret
  exact ⟨rfl, hg1⟩
set_option maxRecDepth 20000 in
set_option maxHeartbeats 1600000 in
theorem counts_good (W : World) (n : Nat) (hn1 : 1 ≤ n) (hn2 : (n : Int) ≤ 64) (a : Option Addr) (len cap : Nat) (o : Nat → Opd) (hS : Scr W a len cap o) : Calls Try.prog 5 #[.int .i64 (n : Int), .slice a len cap] W fun e w' => e = .returned (.bool true) ∧ G0 W w' := by
  have hl := hS.len
  obtain ⟨hc1, hc2⟩ := hS.cap
  have HS := Lib.hid hS
  clear hS
  go_enter Try.func5, Try.ntmps5
  go_wp2_with fail
  refine (alive_c W).mono ?_
  rintro e w1 ⟨rfl, hg1⟩
  have Hg1 := Lib.hid hg1
  clear hg1
  go_wp2_with fail
  refine (new_c w1 n (by simp [nod]; omega)).mono ?_
  rintro e w2 ⟨s2, rfl, hn2', hg2, hs2, hf2⟩
  have hsz1 := Hg1.out.size
  have H2 := Lib.hid (show Hd W w2 s2 from ⟨Hg1.out.trans hg2, hn2', fun k hk => Nat.le_trans hsz1 (hf2 k hk)⟩)
  have hb0 : ∀ x, bsum (fun _ => []) x = 0 := fun x => by induction x with | zero => rfl | succ x ih => simp [bsum, ih]
  have F2 : Hid (Ct s2 n 0) := Lib.hid (by rw [hs2]; exact ⟨rfl, by simp [ns0, hb0], (fun d hd => by cases hd)⟩)
  have Z2 : Hid (s2.z ≤ 0) := Lib.hid (by rw [hs2]; exact Nat.le_refl _)
  clear hn2' hg2 hs2 hf2 hsz1 hb0
  obtain ⟨p, hp⟩ : ∃ p, s2.p = p := ⟨_, rfl⟩
  have Hp := Lib.hid hp
  rw [hp]
  clear hp
  go_wp2_with fail
  refine (long_c w2 a len cap o (HS.out.g0 H2.out.g)).mono ?_
  rintro e w3 ⟨x, rfl, rfl⟩
  cases x with
  | true =>
    go_wp2
    go_ret
    exact ⟨rfl, H2.out.g⟩
  | false =>
    go_wp2_with fail
    go_loopw [7, 8, 9, 10, 11, 12] (fun al j _ _ _ _ wr => ∃ i all : Nat, ∃ s, i ≤ len ∧ i ≤ 300 ∧ j = .int .i64 (i : Int) ∧ al = .int .i64 (all : Int) ∧ all ≤ i ∧ Hd W wr s ∧ Ct s n all ∧ s.p = p ∧ s.z ≤ 4 * i) (fun _ j _ _ _ _ _ => 300 - (intOf j).toNat)
    case atStart => exact ⟨0, 0, s2, Nat.zero_le _, by omega, rfl, rfl, Nat.le_refl _, H2.out, F2.out, Hp.out, Z2.out⟩
    case round =>
      obtain ⟨i, all, s, hi, hi3, rfl, rfl, hall, hH, hC, hpp, hz⟩ := hrel
      by_cases hlt : i < len ∧ i < 300
      · obtain ⟨hlt, h3⟩ := hlt
        obtain ⟨b, off, rfl, h0, h1, h2, h3', h4, h5, h6⟩ := (HS.out.g0 hH.g).cell i hlt
        have hI : (i : Int) < (len : Int) := by omega
        have hI3 : (i : Int) < 300 := by omega
        have hsl := Lib.hid (fun w (g : G0 W w) => (HS.out.g0 g).sl i hlt)
        have hmm := Lib.hid (HS.out.ok i hlt)
        have HH := Lib.hid hH
        have HC := Lib.hid hC
        have Hpp := Lib.hid hpp
        have Hz := Lib.hid hz
        have Hall := Lib.hid hall
        have Hi3 := Lib.hid hi3
        clear hH hC hpp hz hall hi3 hi
        go_wp2_with fail
        refine (kind_c wr (o i).k (o i).f (o i).t (o i).i (o i).a (o i).m (o i).bv _ _ _ rfl).mono ?_
        rintro e w4 ⟨rfl, hg4⟩
        have hs4 : wr.heap.size ≤ w4.heap.size := hg4.size
        have H4 := Lib.hid ((HH.out.g0 hg4).g0 (Gr.alloc w4 (.cells #[.int .i64 (kd (o i).k), .int .i64 (o i).f, .int .i64 (o i).t, .int .i64 (o i).i, .int .i64 (o i).a, .int .u32 ((o i).m : Int), (o i).bv] 36) (fun _ => False)))
        obtain ⟨K, hK⟩ : ∃ K, kd (o i).k = K := ⟨_, rfl⟩
        have hKb := Lib.hid (hK ▸ kd_bounds (o i).k)
        rw [hK] at H4 ⊢
        clear hg4 hK
        go_wp2_with fail
        have tw := do_net _ s H4.out.nt (by have := Hz.out; omega) K (o i).f (o i).t (o i).i (o i).a (o i).m (o i).bv (o i).l (hsl.out _ H4.out.g) hmm.out hKb.out.1 hKb.out.2
        rw [Hpp.out] at tw
        refine tw.mono ?_
        clear tw
        rintro e w5 ⟨s5, d, ok, c, rfl, hx5, ho5, _⟩
        obtain ⟨all', hC5, hal⟩ := ct_step HC.out ho5 hx5.nodes
        have H5 := Lib.hid (H4.out.step hx5)
        have hp5 := Lib.hid (hx5.p.trans Hpp.out)
        have hz5 : Hid (s5.z ≤ 4 * (i + 1)) := Lib.hid (by have := hx5.z; have := Hz.out; omega)
        have hB5 : w5.heap[w4.heap.size]? = some (.cells #[.int .i64 K, .int .i64 (o i).f, .int .i64 (o i).t, .int .i64 (o i).i, .int .i64 (o i).a, .int .u32 ((o i).m : Int), (o i).bv] 36 (0, 0)) := (hx5.gr.block _ (by simp) (fun e => by have := (HH.out.nt).lt e; omega)).trans (heap_alloc_new _ _)
        obtain ⟨p0, p1, p2, p3, p4, p5, p6⟩ := seven hB5
        have hw45 : w4.heap.size < w5.heap.size := lt_of_blk hB5
        have HC5 := Lib.hid hC5
        have hall2 : (all : Int) ≤ 300 := by have := Hall.out; omega
        clear hx5 ho5 hB5 hC5 hs4
        obtain ⟨T, hT⟩ : ∃ T : Bool, (((K == 0) || (K == 3)) && (c == 0)) = T := ⟨_, rfl⟩
        have hup : up K c = if T = true then 1 else 0 := by
          unfold up
          rw [← hT]
          simp
        rw [hup] at hal
        clear hup
        rcases hK0 : (K == 0) with _ | _ <;> rcases hK3 : (K == 3) with _ | _ <;> rcases hc0 : (c == 0) with _ | _ <;> rcases ok with _ | _
        all_goals
          rw [hK0, hK3, hc0] at hT
          simp only [Bool.or_true, Bool.true_or, Bool.or_false, Bool.false_or, Bool.and_true, Bool.and_false, Bool.true_and, Bool.false_and] at hT
          subst hT
          simp only [if_true, if_false, Bool.false_eq_true, Nat.add_zero] at hal
          have hal2 : (all' : Int) ≤ 301 := by have := Hall.out; omega
          go_wp2_with fail
          exact ⟨⟨i + 1, all', s5, by omega, by omega, by go_num, by congr 1; omega, by have := Hall.out; omega, H5.out.g0 (Gr.alloc _ _ _), HC5.out, hp5.out, hz5.out⟩, by simp [intOf]; omega⟩
      · by_cases hlt2 : i < len
        · have hI : (i : Int) < (len : Int) := by omega
          have hI3 : ¬ (i : Int) < 300 := by omega
          obtain ⟨fl, hfl⟩ : ∃ x, (s.q none).length = x := ⟨_, rfl⟩
          obtain ⟨lo, hlo⟩ : ∃ x, s.lost = x := ⟨_, rfl⟩
          have hsum : (all : Int) = (fl : Int) + (bsum s.q n : Int) + (lo : Int) := by have := hC.all; omega
          have hbs : ∀ j, bsum s.q j ≤ 64 * j := fun j => by
            induction j with
            | zero => exact Nat.le_refl _
            | succ j ih => have := hH.nt.bl ((j : Int) + 1); simp only [bsum]; omega
          have hflI : (fl : Int) ≤ 1024 := by have := hH.nt.wl; omega
          have hloI : (lo : Int) ≤ 300 := by omega
          have HH := Lib.hid hH
          have Hbs := Lib.hid hbs
          have tb := fun k hk => box_c wr s hH.nt k hk
          have tl := fun w (g : G0 wr w) => lost_c w s (HH.out.g0 g).nt
          have tf := fun w (g : G0 wr w) => flight_c w s (HH.out.g0 g).nt
          rw [hpp] at tb
          rw [hpp, hlo] at tl
          rw [hpp, hfl] at tf
          have Tb := Lib.hid tb
          have Tl := Lib.hid tl
          have Tf := Lib.hid tf
          have Hsum := Lib.hid hsum
          have hallI : (all : Int) ≤ 300 := by omega
          clear hH hC hpp hz hall hi3 hi hfl hlo tb tl tf hbs hsum
          go_wp2_with fail
          go_loopw [13, 14] (fun bx j w => ∃ k : Nat, k ≤ n ∧ j = .int .i64 ((k : Int) + 1) ∧ bx = .int .i64 (bsum s.q k : Int) ∧ w = wr) (fun _ j _ => n + 1 - (intOf j).toNat)
          case atStart => exact ⟨0, Nat.zero_le _, rfl, rfl, by first | rfl | trivial⟩
          case round =>
            obtain ⟨k, hk, rfl, rfl, rfl⟩ := hrel
            by_cases hkn : k < n
            · have hkI : (k : Int) + 1 ≤ (n : Int) := by omega
              have hkb := Hbs.out k
              obtain ⟨bx, hbx⟩ : ∃ x, (s.q (some ((k : Int) + 1))).length = x := ⟨_, rfl⟩
              have hbx2 : (bx : Int) ≤ 64 := by have := HH.out.nt.bl ((k : Int) + 1); omega
              have hbsk : bsum s.q (k + 1) = bsum s.q k + bx := by simp only [bsum, hbx]
              obtain ⟨B, hB⟩ : ∃ B, bsum s.q k = B := ⟨_, rfl⟩
              rw [hB] at hkb hbsk ⊢
              have hBI : (B : Int) ≤ 4096 := by omega
              have tb := Tb.out ((k : Int) + 1) (wf64 (by omega) (by omega))
              rw [hbx] at tb
              have TT := Lib.hid tb
              have Hbsk := Lib.hid hbsk
              clear tb hkb hbx hbsk
              go_wp2_with fail
              refine TT.out.mono ?_
              rintro e w9 ⟨rfl, rfl⟩
              go_wp2_with fail
              exact ⟨⟨k + 1, by omega, by go_num, by rw [Hbsk.out]; push_cast; rfl, by first | rfl | trivial⟩, by simp [intOf]; omega⟩
            · obtain rfl : k = n := by omega
              have hkb := Hbs.out k
              have hkI : ¬ (k : Int) + 1 ≤ (k : Int) := by omega
              obtain ⟨B, hB⟩ : ∃ B, bsum s.q k = B := ⟨_, rfl⟩
              have hsum := Hsum.out
              rw [hB] at hkb hsum ⊢
              have hBI : (B : Int) ≤ 4096 := by omega
              clear hkb hB
              go_wp2_with fail
              refine (Tf.out _ (Gr.refl _ _)).mono ?_
              rintro e w9 ⟨g9, l9, rfl, _, _, _, hg9⟩
              go_wp2_with fail
              refine (Tl.out _ hg9).mono ?_
              rintro e w10 ⟨rfl, rfl⟩
              go_wp2
              go_ret
              exact ⟨rfl, HH.out.g.trans hg9⟩
        · have hI : ¬ (i : Int) < (len : Int) := by omega
          obtain ⟨fl, hfl⟩ : ∃ x, (s.q none).length = x := ⟨_, rfl⟩
          obtain ⟨lo, hlo⟩ : ∃ x, s.lost = x := ⟨_, rfl⟩
          have hsum : (all : Int) = (fl : Int) + (bsum s.q n : Int) + (lo : Int) := by have := hC.all; omega
          have hbs : ∀ j, bsum s.q j ≤ 64 * j := fun j => by
            induction j with
            | zero => exact Nat.le_refl _
            | succ j ih => have := hH.nt.bl ((j : Int) + 1); simp only [bsum]; omega
          have hflI : (fl : Int) ≤ 1024 := by have := hH.nt.wl; omega
          have hloI : (lo : Int) ≤ 300 := by omega
          have HH := Lib.hid hH
          have Hbs := Lib.hid hbs
          have tb := fun k hk => box_c wr s hH.nt k hk
          have tl := fun w (g : G0 wr w) => lost_c w s (HH.out.g0 g).nt
          have tf := fun w (g : G0 wr w) => flight_c w s (HH.out.g0 g).nt
          rw [hpp] at tb
          rw [hpp, hlo] at tl
          rw [hpp, hfl] at tf
          have Tb := Lib.hid tb
          have Tl := Lib.hid tl
          have Tf := Lib.hid tf
          have Hsum := Lib.hid hsum
          have hallI : (all : Int) ≤ 300 := by omega
          clear hH hC hpp hz hall hi3 hi hfl hlo tb tl tf hbs hsum
          go_wp2_with fail
          go_loopw [13, 14] (fun bx j w => ∃ k : Nat, k ≤ n ∧ j = .int .i64 ((k : Int) + 1) ∧ bx = .int .i64 (bsum s.q k : Int) ∧ w = wr) (fun _ j _ => n + 1 - (intOf j).toNat)
          case atStart => exact ⟨0, Nat.zero_le _, rfl, rfl, by first | rfl | trivial⟩
          case round =>
            obtain ⟨k, hk, rfl, rfl, rfl⟩ := hrel
            by_cases hkn : k < n
            · have hkI : (k : Int) + 1 ≤ (n : Int) := by omega
              have hkb := Hbs.out k
              obtain ⟨bx, hbx⟩ : ∃ x, (s.q (some ((k : Int) + 1))).length = x := ⟨_, rfl⟩
              have hbx2 : (bx : Int) ≤ 64 := by have := HH.out.nt.bl ((k : Int) + 1); omega
              have hbsk : bsum s.q (k + 1) = bsum s.q k + bx := by simp only [bsum, hbx]
              obtain ⟨B, hB⟩ : ∃ B, bsum s.q k = B := ⟨_, rfl⟩
              rw [hB] at hkb hbsk ⊢
              have hBI : (B : Int) ≤ 4096 := by omega
              have tb := Tb.out ((k : Int) + 1) (wf64 (by omega) (by omega))
              rw [hbx] at tb
              have TT := Lib.hid tb
              have Hbsk := Lib.hid hbsk
              clear tb hkb hbx hbsk
              go_wp2_with fail
              refine TT.out.mono ?_
              rintro e w9 ⟨rfl, rfl⟩
              go_wp2_with fail
              exact ⟨⟨k + 1, by omega, by go_num, by rw [Hbsk.out]; push_cast; rfl, by first | rfl | trivial⟩, by simp [intOf]; omega⟩
            · obtain rfl : k = n := by omega
              have hkb := Hbs.out k
              have hkI : ¬ (k : Int) + 1 ≤ (k : Int) := by omega
              obtain ⟨B, hB⟩ : ∃ B, bsum s.q k = B := ⟨_, rfl⟩
              have hsum := Hsum.out
              rw [hB] at hkb hsum ⊢
              have hBI : (B : Int) ≤ 4096 := by omega
              clear hkb hB
              go_wp2_with fail
              refine (Tf.out _ (Gr.refl _ _)).mono ?_
              rintro e w9 ⟨g9, l9, rfl, _, _, _, hg9⟩
              go_wp2_with fail
              refine (Tl.out _ hg9).mono ?_
              rintro e w10 ⟨rfl, rfl⟩
              go_wp2
              go_ret
              exact ⟨rfl, HH.out.g.trans hg9⟩
end Go.Proofs.Ytjffhnpoipolfaa
