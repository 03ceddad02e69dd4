/-
  turn and Spoil.
-/
import Derived.Test.YtjffhnpoipolfaaI
set_option linter.unusedVariables false
set_option linter.unusedSimpArgs false
namespace Go.Proofs.Ytjffhnpoipolfaa
open Go.RowKit Go.Maps Go.WideMaps
variable {S S' : Nat → Prop} {W W1 W' : World}

/-- Bytes turned from place k on, j of them, the highest first. -/
def tur (l : List Nat) (k m : Nat) : Nat → List Nat
  | 0 => l
  | j + 1 => (tur l k m j).set (k + j) ((tur l k m j).getD (k + j) 0 ^^^ (m / 2 ^ (24 - 8 * j) % 256))
theorem tur_len (l : List Nat) (k m j : Nat) : (tur l k m j).length = l.length := by
  induction j with
  | zero => rfl
  | succ j ih => simp [tur, ih]
theorem tur_byte {l : List Nat} (h : ∀ x ∈ l, x < 256) (k m j : Nat) : ∀ x ∈ tur l k m j, x < 256 := by
  induction j with
  | zero => exact h
  | succ j ih =>
    intro x hx
    rcases List.mem_or_eq_of_mem_set hx with h1 | rfl
    · exact ih x h1
    · exact Nat.xor_lt_two_pow (n := 8) (getD_lt ih _) (Nat.mod_lt _ (by decide))
theorem bs_set (l : List Nat) (j x : Nat) : bs (l.set j x) = (bs l).set j (.int .u8 (x : Int)) := by simp [bs, List.map_set]
theorem byte_at {b : Nat} {l : List Nat} (h : W.heap[b]? = some (.cells (bs l).toArray 5 (0, 0))) {j : Nat} (hj : j < l.length) : W.cell? ⟨b, j, none⟩ = some (.int .u8 ((l.getD j 0 : Nat) : Int)) ∧ W.frozen? ⟨b, j, none⟩ = false := by
  refine ⟨?_, by simp [World.frozen?, h]⟩
  simp only [World.cell?, h]
  have := bs_get l j hj
  simpa using this
theorem byte_set {b : Nat} {l : List Nat} (h : W.heap[b]? = some (.cells (bs l).toArray 5 (0, 0))) (j x : Nat) : (W.setCell ⟨b, j, none⟩ (.int .u8 (x : Int))).heap[b]? = some (.cells (bs (l.set j x)).toArray 5 (0, 0)) := by
  have := heap_setCell_same W b j _ 5 (.int .u8 (x : Int)) h
  rw [this, bs_set]
  simp
set_option maxRecDepth 20000 in
set_option maxHeartbeats 1600000 in
theorem turn_c (W : World) (b k m : Nat) (l : List Nat) (c : Nat) (hb : W.heap[b]? = some (.cells (bs l).toArray 5 (0, 0))) (hk : k < l.length) (hl : l.length ≤ 1212) (hby : ∀ x ∈ l, x < 256) (hm : m < 4294967296) :
    Calls Try.prog 37 #[.slice (some ⟨b, k, none⟩) (l.length - k) c, .int .u32 (m : Int)] W fun e w' => e = .returned (.tuple #[]) ∧ w'.heap[b]? = some (.cells (bs (tur l k m (min 4 (l.length - k)))).toArray 5 (0, 0)) ∧ Gr (fun i => i = b) W w' := by
  obtain ⟨r, hr⟩ : ∃ r, min 4 (l.length - k) = r := ⟨_, rfl⟩
  have hr4 : r ≤ 4 := by omega
  obtain ⟨n, hn⟩ : ∃ n, l.length - k = n := ⟨_, rfl⟩
  have hmn : min (4 : Int) (n : Int) = (r : Int) := by omega
  have Hr := Lib.hid hr
  have Hn := Lib.hid hn
  have hrn : (r : Int) ≤ (n : Int) := by omega
  have hni : (n : Int) ≤ 1212 := by omega
  have hkI : (k : Int) ≤ 1212 := by omega
  rw [hn]
  have post : Hid (∀ w' : World, w'.heap[b]? = some (.cells (bs (tur l k m r)).toArray 5 (0, 0)) → w'.heap[b]? = some (.cells (bs (tur l k m (min 4 n))).toArray 5 (0, 0))) := Lib.hid (fun w' h => by rw [← hn, hr]; exact h)
  have Hb := Lib.hid hb
  have Hk := Lib.hid hk
  have Hl := Lib.hid hl
  have Hby := Lib.hid hby
  clear hb hn hr hk hl hby
  go_enter Try.func37, Try.ntmps37
  go_wp2_with fail
  go_loopw [4, 8] (fun _ i wr => ∃ j : Nat, j ≤ r ∧ i = .int .i64 (j : Int) ∧ wr.heap[b]? = some (.cells (bs (tur l k m j)).toArray 5 (0, 0)) ∧ Gr (fun i => i = b) W wr) (fun _ i _ => r - (intOf i).toNat)
  case atStart => exact ⟨0, Nat.zero_le _, rfl, Hb.out, Gr.refl _ _⟩
  case round =>
    obtain ⟨j, hj, rfl, hw, hg⟩ := hrel
    by_cases hlt : j < r
    · have hkj : k + j < (tur l k m j).length := by rw [tur_len]; have := Hn.out; have := hrn; omega
      obtain ⟨cj, fj⟩ := byte_at hw hkj
      have hx := getD_lt (tur_byte Hby.out k m j) (k + j)
      have hst := Lib.hid (fun x => byte_set hw (k + j) x)
      have htu : Hid (tur l k m (j + 1) = (tur l k m j).set (k + j) ((tur l k m j).getD (k + j) 0 ^^^ (m / 2 ^ (24 - 8 * j) % 256))) := Lib.hid rfl
      generalize (tur l k m j).getD (k + j) 0 = x at *
      have hI : (j : Int) < (n : Int) := by omega
      have Hg := Lib.hid hg
      obtain ⟨y, hy⟩ : ∃ y, m / 2 ^ (24 - 8 * j) % 256 = y := ⟨_, rfl⟩
      have hy2 : y < 256 := by omega
      have hxx : bits .xor .u8 (x : Int) (y : Int) = ((x ^^^ y : Nat) : Int) := u8_xor_nat x y hx hy2
      have Hw := Lib.hid hw
      clear hg hw hkj
      have hj4 : j = 0 ∨ j = 1 ∨ j = 2 ∨ j = 3 := by omega
      have hu : ∀ q, 0 < q → IntKind.u8.wrap ((m : Int) / (q : Nat)) = ((m / q % 256 : Nat) : Int) := fun q hq => by rw [IntKind.wrap_u8]; push_cast; rfl
      have hN : j < n := by omega
      rcases hj4 with rfl | rfl | rfl | rfl
      · rw [Nat.add_zero] at cj fj
        have e0 : (m : Int) / 16777216 = (y : Int) := by have := hy; simp only [Nat.mul_zero, Nat.sub_zero, Nat.mul_one, Nat.reduceMul, Nat.reduceSub, Nat.reducePow] at this; omega
        go_wp2_with fail
        go_region
        go_wp2_with fail
        refine ⟨⟨1, by omega, rfl, ?_, ?_⟩, by simp [intOf]; omega⟩
        · rw [htu.out, hy]; exact hst.out _
        · exact (Hg.out.cell _ _ (.inl rfl)).trans (Gr.drew _ _)
      · have e0 : (m : Int) / 65536 % 256 = (y : Int) := by have := hy; simp only [Nat.mul_zero, Nat.sub_zero, Nat.mul_one, Nat.reduceMul, Nat.reduceSub, Nat.reducePow] at this; omega
        go_wp2_with fail
        go_region
        go_wp2_with fail
        refine ⟨⟨2, by omega, rfl, ?_, ?_⟩, by simp [intOf]; omega⟩
        · rw [htu.out, hy]; exact hst.out _
        · exact (Hg.out.cell _ _ (.inl rfl)).trans (Gr.drew _ _)
      · have e0 : (m : Int) / 256 % 256 = (y : Int) := by have := hy; simp only [Nat.mul_zero, Nat.sub_zero, Nat.mul_one, Nat.reduceMul, Nat.reduceSub, Nat.reducePow] at this; omega
        go_wp2_with fail
        go_region
        go_wp2_with fail
        refine ⟨⟨3, by omega, rfl, ?_, ?_⟩, by simp [intOf]; omega⟩
        · rw [htu.out, hy]; exact hst.out _
        · exact (Hg.out.cell _ _ (.inl rfl)).trans (Gr.drew _ _)
      · have e0 : (m : Int) % 256 = (y : Int) := by have := hy; simp only [Nat.mul_zero, Nat.sub_zero, Nat.mul_one, Nat.reduceMul, Nat.reduceSub, Nat.reducePow] at this; omega
        go_wp2_with fail
        go_region
        go_wp2_with fail
        refine ⟨⟨4, by omega, rfl, ?_, ?_⟩, by simp [intOf]; omega⟩
        · rw [htu.out, hy]; exact hst.out _
        · exact (Hg.out.cell _ _ (.inl rfl)).trans (Gr.drew _ _)
    · obtain rfl : j = r := by omega
      have Hw := Lib.hid hw
      have Hg := Lib.hid hg
      clear hw hg
      go_wp2
      exact bodyPost_end (v := .tuple #[]) (by simp [results, Try.results37, go_sem]) rfl ⟨rfl, post.out _ Hw.out, Hg.out⟩
/-! ### Spoil -/
set_option maxHeartbeats 400000 in
theorem spoil_no (W : World) (s : Ns) (h : Nt W s) (i at' : Int) (m : Int) (hr : ref i (s.q none).length = 92) : Calls Try.prog 26 #[pt s.p, .int .i64 i, .int .i64 at', .int .u32 m] W fun e w' => e = .returned (.int .i64 92) ∧ W = w' := by
  have hrf := refuses_c W s h i
  rw [hr] at hrf
  go_enter Try.func26, Try.ntmps26
  go_wp2_with fail
  refine hrf.mono ?_
  rintro e w' ⟨rfl, rfl⟩
  go_wp2
  go_ret
  exact ⟨rfl, rfl⟩
set_option maxHeartbeats 800000 in
theorem spoil_twice (W : World) (s : Ns) (h : Nt W s) (i : Nat) (at' m : Int) (d : Dg) (hd : (s.q none)[i]? = some d) (hsp : d.sp = true) : Calls Try.prog 26 #[pt s.p, .int .i64 (i : Int), .int .i64 at', .int .u32 m] W fun e w' => e = .returned (.int .i64 94) ∧ W = w' := by
  obtain ⟨g, cap, n, e, hn, hi, hl, hc1, hc2, hf, a0, a1, a2, a3, a4, hg, hgp⟩ := flight_at h hd
  have hr0 : ref (i : Int) (s.q none).length = 0 := by unfold ref; rw [if_neg]; omega
  have hrf := refuses_c W s h (i : Int)
  rw [hr0] at hrf
  obtain ⟨c0, c1, c2, c3, c4, _⟩ := five h.blk
  rw [e] at c3
  rw [hsp] at a4
  clear hn hd h
  go_enter Try.func26, Try.ntmps26
  go_wp2_with fail
  refine hrf.mono ?_
  rintro e w' ⟨rfl, rfl⟩
  go_wp2
  go_ret
  exact ⟨rfl, rfl⟩
set_option maxHeartbeats 800000 in
theorem spoil_place (W : World) (s : Ns) (h : Nt W s) (i : Nat) (at' m : Int) (d : Dg) (hd : (s.q none)[i]? = some d) (hsp : d.sp = false) (ha : at' < 0 ∨ (d.by'.length : Int) ≤ at') : Calls Try.prog 26 #[pt s.p, .int .i64 (i : Int), .int .i64 at', .int .u32 m] W fun e w' => e = .returned (.int .i64 93) ∧ W = w' := by
  obtain ⟨g, cap, n, e, hn, hi, hl, hc1, hc2, hf, a0, a1, a2, a3, a4, hg, hgp⟩ := flight_at h hd
  have hr0 : ref (i : Int) (s.q none).length = 0 := by unfold ref; rw [if_neg]; omega
  have hrf := refuses_c W s h (i : Int)
  rw [hr0] at hrf
  obtain ⟨c0, c1, c2, c3, c4, _⟩ := five h.blk
  rw [e] at c3
  rw [hsp] at a4
  have hlb : (d.by'.length : Int) ≤ 1212 := by have := (h.ok none d (List.mem_of_getElem? hd)).1; omega
  clear hn hd h
  by_cases h0 : at' < 0
  · go_enter Try.func26, Try.ntmps26
    go_wp2_with fail
    refine hrf.mono ?_
    rintro e w' ⟨rfl, rfl⟩
    go_wp2
    go_ret
    exact ⟨rfl, rfl⟩
  · have h1 : (d.by'.length : Int) ≤ at' := by omega
    clear ha
    go_enter Try.func26, Try.ntmps26
    go_wp2_with fail
    refine hrf.mono ?_
    rintro e w' ⟨rfl, rfl⟩
    go_wp2
    go_ret
    exact ⟨rfl, rfl⟩
/-- A datagram that is spoilt at a place. -/
def Dg.spoil (d : Dg) (k m : Nat) : Dg := { d with by' := tur d.by' k m (min 4 (d.by'.length - k)), sp := true }
theorem flat_set {l : List Dg} {i : Nat} {d d' : Dg} (hd : l[i]? = some d) (hc : d'.cells = d.cells.set 4 (.bool d'.sp)) : flat (l.set i d') = (flat l).set (i * 5 + 4) (.bool d'.sp) := by
  have hi : i < l.length := (List.getElem?_eq_some_iff.1 hd).1
  have e1 := cut_at hd
  have e2 : l.set i d' = l.take i ++ d' :: l.drop (i + 1) := by
    conv => lhs; rw [e1]
    rw [List.set_append_right _ _ (by rw [List.length_take]; omega), List.length_take, Nat.min_eq_left (by omega), Nat.sub_self]; rfl
  rw [e2]
  conv => rhs; rw [e1]
  rw [flat_append, flat_append, flat_cons, flat_cons, List.set_append_right _ _ (by rw [flat_length, List.length_take]; omega), flat_length, List.length_take, Nat.min_eq_left (by omega), Nat.add_sub_cancel_left, List.set_append_left _ _ (by simp), hc]
theorem spoil_done {s : Ns} (h : Nt W s) {i k m g cap n : Nat} {d : Dg} {w1 : World} (hm : m < 4294967296) (hd : (s.q none)[i]? = some d) (e : s.R none = .slice (some ⟨g, 0, none⟩) (n + 1) cap) (hn : (s.q none).length = n + 1) (hb : w1.heap[d.bk]? = some (.cells (bs (tur d.by' k m (min 4 (d.by'.length - k)))).toArray 5 (0, 0))) (g1 : Gr (fun i => i = d.bk) W w1) :
    Nx W s (w1.setCell ⟨g, i * 5 + 4, none⟩ (.bool true)) { s with q := upd s.q none ((s.q none).set i (d.spoil k m)) } := by
  have hg0 : (s.R none).ownBlock = some g := by rw [e]; rfl
  have hdm : d ∈ s.q none := List.mem_of_getElem? hd
  have hi : i < (s.q none).length := (List.getElem?_eq_some_iff.1 hd).1
  have hbd := h.byt none d hdm
  have hpd : s.p ≠ d.bk := fun e2 => by rw [← e2, h.blk] at hbd; simp at hbd
  obtain ⟨es, c, hmb⟩ := h.map.blk
  have hmd : s.mb ≠ d.bk := fun e2 => by rw [← e2, hmb] at hbd; cases hbd
  obtain ⟨cur, hc⟩ := h.rowb hg0
  have hgd : g ≠ d.bk := fun e2 => by rw [e2, hbd] at hc; simp at hc
  have hgp : s.p ≠ g := fun e2 => by rw [← e2, h.blk] at hc; simp at hc
  have hgm : s.mb ≠ g := fun e2 => by rw [← e2, hmb] at hc; cases hc
  have hsm := h.sm
  have hG : Gr (Fq s none) W (w1.setCell ⟨g, i * 5 + 4, none⟩ (.bool true)) :=
    (g1.mono (fun i _ e => .inr (.inr (.inr ⟨d, hdm, e.symm⟩)))).cell _ _ (.inl (.inr (.inr (.inl hg0))))
  have hq := h.queue (fun _ => False) none hG s.sent s.lost s.z (s.R none) ((s.q none).set i (d.spoil k m)) ?_ ?_ ?_ (fun k e => .inl e) ?_ ?_ ?_ ?_ (fun k hk => by cases hk) ?_ (Nat.le_refl _) (Nat.le_succ _) (Nat.le_refl _) hsm.1 hsm.2
  · have eR : upd s.R none (s.R none) = s.R := by funext j; by_cases hj : j = none <;> simp [upd, hj]
    rw [eR] at hq
    exact hq
  · rw [upd_same]
    exact (heap_setCell_other _ _ _ _ hgp).trans ((g1.block _ (lt_of_blk h.blk) hpd).trans h.blk)
  · refine ((h.map.of_block (W' := w1.setCell ⟨g, i * 5 + 4, none⟩ (.bool true)) ((heap_setCell_other _ _ _ _ hgm).trans (g1.block _ (lt_of_blk hmb) hmd)))).congr (fun k => ?_)
    rw [upd_other _ _ (by simp)]
  · rw [flat_set hd (by simp [Dg.spoil, Dg.cells, Dg.bv, tur_len]), List.length_set]
    have hrow := h.row none
    rcases hrow.2 with ⟨e1, _⟩ | ⟨g', cap', cur', e1, b1, b2, b3, b4, b5, b6⟩
    · rw [e1] at e; cases e
    · have eg : g' = g := by rw [e1] at hg0; simpa [Value.ownBlock] using hg0
      subst eg
      refine ⟨by simp, .inr ⟨g', cap', cur'.setIfInBounds (i * 5 + 4) (.bool true), e1, b1, ?_, b3, b4, by simpa using b5, ?_⟩⟩
      · exact heap_setCell_same w1 g' (i * 5 + 4) _ 39 _ ((g1.block _ (lt_of_blk b2) hgd).trans b2)
      · rw [Array.toList_setIfInBounds, List.take_set, b6]; rfl
  · have : ((s.q none).set i (d.spoil k m)).map Dg.bk = (s.q none).map Dg.bk := by
      rw [List.map_set]
      apply List.ext_getElem?
      intro j
      rw [List.getElem?_set]
      by_cases hj : i = j
      · subst hj; rw [if_pos rfl, List.getElem?_map, hd]; simp [hi, Dg.spoil]
      · rw [if_neg hj]
    rw [this]; exact h.nod none
  · intro x hx
    rcases List.mem_or_eq_of_mem_set hx with h1 | rfl
    · exact .inl ⟨x, h1, rfl⟩
    · exact .inl ⟨d, hdm, rfl⟩
  · intro x hx
    have hkeep : ∀ y ∈ s.q none, y.bk ≠ d.bk → (w1.setCell ⟨g, i * 5 + 4, none⟩ (.bool true)).heap[y.bk]? = some (.cells (bs y.by').toArray 5 (0, 0)) := by
      intro y hy hne
      have hby := h.byt none y hy
      have hyg : y.bk ≠ g := fun e2 => by rw [e2, hc] at hby; simp at hby
      exact (heap_setCell_other _ _ _ _ hyg).trans ((g1.block _ (lt_of_blk hby) hne).trans hby)
    rw [List.mem_iff_getElem?] at hx
    obtain ⟨j, hj⟩ := hx
    rw [List.getElem?_set] at hj
    by_cases hij : i = j
    · rw [if_pos hij, if_pos hi] at hj
      cases hj
      exact (heap_setCell_other _ _ _ _ (Ne.symm hgd)).trans hb
    · rw [if_neg hij] at hj
      refine hkeep x (List.mem_of_getElem? hj) (fun e2 => hij ?_)
      have hnd := h.nod none
      have h1 : ((s.q none).map Dg.bk)[i]? = some d.bk := by rw [List.getElem?_map, hd]; rfl
      have h2 : ((s.q none).map Dg.bk)[j]? = some d.bk := by rw [List.getElem?_map, hj]; simp [e2]
      exact (List.getElem?_inj (by simpa using hi) hnd).1 (h1.trans h2.symm)
  · intro x hx
    rcases List.mem_or_eq_of_mem_set hx with h1 | rfl
    · exact h.ok none x h1
    · obtain ⟨o1, o2, o3⟩ := h.ok none d hdm
      exact ⟨by simp [Dg.spoil, tur_len, o1], tur_byte o2 _ _ _, o3⟩
  · rw [List.length_set]; simpa using h.wl
set_option maxRecDepth 20000 in
set_option maxHeartbeats 800000 in
theorem spoil_c (W : World) (s : Ns) (h : Nt W s) (i k m : Nat) (d : Dg) (hd : (s.q none)[i]? = some d) (hsp : d.sp = false) (hk : k < d.by'.length) (hm : m < 4294967296) :
    Calls Try.prog 26 #[pt s.p, .int .i64 (i : Int), .int .i64 (k : Int), .int .u32 (m : Int)] W fun e w' => e = .returned (.int .i64 0) ∧ ∃ s', Nx W s w' s' ∧ s'.sent = s.sent ∧ s'.lost = s.lost ∧ s'.q = upd s.q none ((s.q none).set i (d.spoil k m)) := by
  obtain ⟨g, cap, n, e, hn, hi, hl, hc1, hc2, hf, a0, a1, a2, a3, a4, hg, hgp⟩ := flight_at h hd
  have hr0 : ref (i : Int) (s.q none).length = 0 := by unfold ref; rw [if_neg]; omega
  have hrf := refuses_c W s h (i : Int)
  rw [hr0] at hrf
  obtain ⟨c0, c1, c2, c3, c4, _⟩ := five h.blk
  have hdm : d ∈ s.q none := List.mem_of_getElem? hd
  have hok := h.ok none d hdm
  have fin := Lib.hid (fun w1 hb g1 => spoil_done h (k := k) (w1 := w1) hm hd e hn hb g1)
  have ht := Lib.hid (turn_c W d.bk k m d.by' (d.by'.length - k) (h.byt none d hdm) hk hok.1 hok.2.1 hm)
  have hgd : g ≠ d.bk := fun e2 => by obtain ⟨cur, hc⟩ := h.rowb (i := none) (g := g) (by rw [e]; rfl); rw [e2, h.byt none d hdm] at hc; simp at hc
  rw [e] at c3
  rw [hsp] at a4
  have hlb : (d.by'.length : Int) ≤ 1212 := by have := hok.1; omega
  have k1 : (k : Int) < (d.by'.length : Int) := by omega
  have k2 : (k : Int) ≤ (d.by'.length : Int) := by omega
  have k3 : ¬ d.by'.length = k := by omega
  have Hrow := Lib.hid (fun w1 (g1 : Gr (fun i => i = d.bk) W w1) => row_at (ownsRow_of_block (h.row none) (W' := w1) (fun x ex => g1.block x ((h.row none).lt x ex).2 (fun e2 => by rw [e] at ex; cases ex; exact hgd e2))) hd)
  have He := Lib.hid e
  clear hn hd h hok hdm hk hm
  go_enter Try.func26, Try.ntmps26
  go_wp2_with fail
  refine hrf.mono ?_
  rintro e w' ⟨rfl, rfl⟩
  go_wp2_with fail
  refine ht.out.mono ?_
  rintro e w1 ⟨rfl, hb1, g1⟩
  obtain ⟨g', cap', e', _, _, hf1, x0, x1, x2, x3, x4⟩ := Hrow.out w1 g1
  have eg : g' = g := by have := He.out.symm.trans e'; injection this with e3; injection e3 with e3; injection e3 with e3; exact e3.symm
  subst eg
  have hfin := Lib.hid (fin.out w1 hb1 g1)
  clear hb1 g1 e'
  go_wp2
  go_ret
  exact ⟨rfl, _, hfin.out, rfl, rfl, rfl⟩
end Go.Proofs.Ytjffhnpoipolfaa
