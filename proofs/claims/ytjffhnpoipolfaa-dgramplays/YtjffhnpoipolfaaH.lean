/-
  Drop, Deliver, Twin.
-/
import Derived.Test.YtjffhnpoipolfaaG
set_option linter.unusedVariables false
set_option linter.unusedSimpArgs false
namespace Go.Proofs.Ytjffhnpoipolfaa
open Go.RowKit Go.Maps Go.WideMaps
variable {S S' : Nat → Prop} {W W1 W' : World}

theorem cut_at {l : List Dg} {i : Nat} {d : Dg} (hd : l[i]? = some d) : l = l.take i ++ d :: l.drop (i + 1) := by
  have hi : i < l.length := (List.getElem?_eq_some_iff.1 hd).1
  conv => lhs; rw [← List.take_append_drop i l, List.drop_eq_getElem_cons hi]
  rw [(List.getElem?_eq_some_iff.1 hd).2]
theorem nodup_cut {l : List Dg} (h : (l.map Dg.bk).Nodup) {i : Nat} {d : Dg} (hd : l[i]? = some d) : ((l.eraseIdx i).map Dg.bk).Nodup ∧ (∀ e ∈ l.eraseIdx i, e.bk ≠ d.bk) ∧ ∀ e ∈ l.eraseIdx i, e ∈ l := by
  refine ⟨h.sublist ((List.eraseIdx_sublist l i).map _), ?_, fun e he => (List.eraseIdx_sublist l i).subset he⟩
  rw [cut_at hd, List.map_append, List.map_cons, List.nodup_append] at h
  obtain ⟨h1, h2, h3⟩ := h
  rw [List.nodup_cons] at h2
  intro e he
  rw [List.eraseIdx_eq_take_drop_succ] at he
  rcases List.mem_append.1 he with he | he
  · exact fun e2 => h3 _ (List.mem_map_of_mem he) _ (by simp) e2
  · exact fun e2 => h2.1 (e2 ▸ List.mem_map_of_mem he)
/-- A datagram is taken out of a queue. -/
theorem cut_queue {s : Ns} (h : Nt W s) (j : Option Int) {g cap n i z' : Nat} {w0 w1 w3 : World} {d : Dg} (hz : s.z ≤ z') (hz' : z' ≤ s.z + 1) (hd : (s.q j)[i]? = some d) (e : s.R j = .slice (some ⟨g, 0, none⟩) (n + 1) cap) (hn : (s.q j).length = n + 1) (g0 : G0 W w0)
    (hrow : w1.ownsRow 0 39 5 (.slice (some ⟨g, 0, none⟩) n cap) n (flat ((s.q j).eraseIdx i))) (gr : Gr (fun k => k = g) w0 w1) (g3 : Gr (fun k => k = s.p ∨ k = s.mb) w1 w3)
    (hblk : w3.heap[s.p]? = some (.cells #[.int .i64 s.nodes, .int .u64 (s.sent : Int), .int .i64 (s.lost : Int), upd s.R j (.slice (some ⟨g, 0, none⟩) n cap) none, .map (some s.mb)] 60 (0, 0)))
    (hmap : Mp w3 s.mb z' (upd s.R j (.slice (some ⟨g, 0, none⟩) n cap))) :
    Nx W s w3 { s with z := z', R := upd s.R j (.slice (some ⟨g, 0, none⟩) n cap), q := upd s.q j ((s.q j).eraseIdx i) } ∧ (∀ k, ∀ e ∈ upd s.q j ((s.q j).eraseIdx i) k, e.bk ≠ d.bk) ∧ w3.heap[d.bk]? = some (.cells (bs d.by').toArray 5 (0, 0)) := by
  have h0 := h.g0 g0
  have hg0 : (s.R j).ownBlock = some g := by rw [e]; rfl
  obtain ⟨es, c, hmb⟩ := h0.map.blk
  have hsz := g0.size
  have hsz1 := gr.size
  obtain ⟨n1, n2, n3⟩ := nodup_cut (h.nod j) hd
  have hdm : d ∈ s.q j := List.mem_of_getElem? hd
  have hkeep : ∀ {k : Nat} {o : Obj}, w0.heap[k]? = some o → (∀ cur, o ≠ .cells cur 39 (0, 0)) → k ≠ s.p → k ≠ s.mb → w3.heap[k]? = w0.heap[k]? := fun {k o} hk ho hp hm =>
    (g3.block k (by have := lt_of_blk hk; omega) (fun e => e.elim hp hm)).trans (gr.block k (lt_of_blk hk) (fun e2 => by obtain ⟨cur, hc⟩ := h0.rowb hg0; rw [e2, hc] at hk; cases hk; exact ho _ rfl))
  have hbyt : ∀ e ∈ s.q j, w3.heap[e.bk]? = some (.cells (bs e.by').toArray 5 (0, 0)) := fun e he => by
    have hc := h0.byt j e he
    exact (hkeep hc (fun cur e => by simp at e) (fun e2 => by rw [e2, h0.blk] at hc; simp at hc) (fun e2 => by rw [e2, hmb] at hc; cases hc)).trans hc
  have hlen : ((s.q j).eraseIdx i).length = n := by
    rw [List.length_eraseIdx_of_lt (List.getElem?_eq_some_iff.1 hd).1, hn]; rfl
  refine ⟨?_, ?_, hbyt d hdm⟩
  · have hg : Gr (Fq s j) W w3 := ((g0.mono (fun _ _ e => e.elim)).trans' gr (fun i _ e => .inr (.inr (.inl (by rw [hg0, e]))))).trans' g3 (fun i _ e => e.elim .inl (fun e => .inr (.inl e)))
    have hsm := h.sm
    refine h.queue _ j hg s.sent s.lost z' _ ((s.q j).eraseIdx i) hblk hmap ?_ (fun k e => .inl (by rw [hg0]; exact e)) n1 (fun d hd => .inl ⟨d, n3 d hd, rfl⟩) (fun d hd => hbyt d (n3 d hd)) (fun d hd => h.ok j d (n3 d hd)) (fun k hk d hd => by subst hk; exact h.bx k d (n3 d hd)) ?_ (Nat.le_refl _) hz' hz (by omega) (by omega)
    · rw [hlen]
      refine ownsRow_of_block hrow (fun k e => ?_)
      obtain rfl : g = k := by simpa [Value.ownBlock] using e
      obtain ⟨cur, hc⟩ := h0.rowb hg0
      refine g3.block _ (hrow.lt _ rfl).2 ?_
      rintro (e2 | e2)
      · rw [e2, h0.blk] at hc; simp at hc
      · rw [e2, hmb] at hc; cases hc
    · rw [hlen]
      cases j with
      | none => have := h.wl; simp only [if_true]; omega
      | some k => have := h.bl k; simp; omega
  · intro k x hx
    by_cases hk : k = j
    · rw [hk, upd_same] at hx; exact n2 x hx
    · rw [upd_other _ _ hk] at hx
      exact h.uni k j hk x hx d hdm
theorem cut_flight {s : Ns} (h : Nt W s) {g cap n i : Nat} {w0 w1 : World} {d : Dg} (hd : (s.q none)[i]? = some d) (e : s.R none = .slice (some ⟨g, 0, none⟩) (n + 1) cap) (hn : (s.q none).length = n + 1) (g0 : G0 W w0)
    (hrow : w1.ownsRow 0 39 5 (.slice (some ⟨g, 0, none⟩) n cap) n (flat ((s.q none).eraseIdx i))) (gr : Gr (fun k => k = g) w0 w1) :
    Nx W s (w1.setCell ⟨s.p, 3, none⟩ (.slice (some ⟨g, 0, none⟩) n cap)) { s with R := upd s.R none (.slice (some ⟨g, 0, none⟩) n cap), q := upd s.q none ((s.q none).eraseIdx i) } ∧ (∀ k, ∀ e ∈ upd s.q none ((s.q none).eraseIdx i) k, e.bk ≠ d.bk) ∧ (w1.setCell ⟨s.p, 3, none⟩ (.slice (some ⟨g, 0, none⟩) n cap)).heap[d.bk]? = some (.cells (bs d.by').toArray 5 (0, 0)) := by
  have h0 := h.g0 g0
  have hg0 : (s.R none).ownBlock = some g := by rw [e]; rfl
  obtain ⟨es, c, hmb⟩ := h0.map.blk
  obtain ⟨cur, hc⟩ := h0.rowb hg0
  have hp : s.p ≠ g := fun e2 => by rw [← e2, h0.blk] at hc; simp at hc
  have hm : s.mb ≠ g := fun e2 => by rw [← e2, hmb] at hc; cases hc
  have hmp : s.mb ≠ s.p := fun e2 => by rw [e2, h0.blk] at hmb; cases hmb
  have hp1 : w1.heap[s.p]? = some (nblk s) := (gr.block _ (lt_of_blk h0.blk) hp).trans h0.blk
  refine cut_queue h none (Nat.le_refl _) (Nat.le_succ _) hd e hn g0 hrow gr (Gr.set _ _ _ (.inl rfl)) ?_ ?_
  · rw [upd_same]; exact heap_setCell_same w1 s.p 3 _ 60 _ hp1
  · refine (h0.map.of_block ((heap_setCell_other _ _ _ _ hmp).trans (gr.block _ (lt_of_blk hmb) hm))).congr (fun k => ?_)
    rw [upd_other _ _ (by simp)]
theorem flight_at {s : Ns} (h : Nt W s) {i : Nat} {d : Dg} (hd : (s.q none)[i]? = some d) : ∃ g cap n, s.R none = .slice (some ⟨g, 0, none⟩) (n + 1) cap ∧ (s.q none).length = n + 1 ∧ i < n + 1 ∧ (n : Int) + 1 ≤ 1024 ∧ n + 1 ≤ cap ∧ cap ≤ 9223372036854775807 ∧ (∀ j, W.frozen? ⟨g, j, none⟩ = false) ∧ W.cell? ⟨g, i * 5, none⟩ = some (.int .i64 d.f) ∧ W.cell? ⟨g, i * 5 + 1, none⟩ = some (.int .i64 d.t) ∧ W.cell? ⟨g, i * 5 + 2, none⟩ = some (.int .u64 (d.n : Int)) ∧ W.cell? ⟨g, i * 5 + 3, none⟩ = some d.bv ∧ W.cell? ⟨g, i * 5 + 4, none⟩ = some (.bool d.sp) ∧ g < W.heap.size ∧ g ≠ s.p := by
  have hi : i < (s.q none).length := (List.getElem?_eq_some_iff.1 hd).1
  obtain ⟨n, hn⟩ : ∃ n, (s.q none).length = n + 1 := ⟨(s.q none).length - 1, by omega⟩
  obtain ⟨g, cap, e, h1, h2, hf, a0, a1, a2, a3, a4⟩ := row_at (h.row none) hd
  have hg0 : (s.R none).ownBlock = some g := by rw [e]; rfl
  obtain ⟨cur, hc⟩ := h.rowb hg0
  rw [hn] at e
  have := h.wl
  exact ⟨g, cap, n, e, hn, by omega, by omega, by omega, h2, hf, a0, a1, a2, a3, a4, lt_of_blk hc, fun e2 => by rw [e2, h.blk] at hc; simp at hc⟩
set_option maxHeartbeats 800000 in
theorem drop_c (W : World) (s : Ns) (h : Nt W s) (hz : s.z ≤ 100000000) (i : Nat) (d : Dg) (hd : (s.q none)[i]? = some d) :
    Calls Try.prog 25 #[pt s.p, .int .i64 (i : Int)] W fun e w' => e = .returned (.int .i64 0) ∧ ∃ s', Nx W s w' s' ∧ s'.sent = s.sent ∧ s'.lost = s.lost + 1 ∧ s'.q = upd s.q none ((s.q none).eraseIdx i) := by
  obtain ⟨g, cap, n, e, hn, hi, hl, hc1, hc2, hf, a0, a1, a2, a3, a4, hg, hgp⟩ := flight_at h hd
  have hr0 : ref (i : Int) (s.q none).length = 0 := by unfold ref; rw [if_neg]; omega
  have hrf := refuses_c W s h (i : Int)
  rw [hr0] at hrf
  have hrow := h.row none
  rw [e, hn] at hrow
  have hw := without_c W g cap n (s.q none) i hn hi (by omega) hrow
  obtain ⟨c0, c1, c2, c3, c4, f0, f1, f2, f3, f4⟩ := five h.blk
  rw [e] at c3
  have hsm := h.sm
  have hlo : (s.lost : Int) ≤ 64000000000 := by omega
  have fin := Lib.hid (fun w1 (hrow : w1.ownsRow 0 39 5 (.slice (some ⟨g, 0, none⟩) n cap) n (flat ((s.q none).eraseIdx i))) gr => cut_flight h (w0 := W) (w1 := w1) hd e hn (Gr.refl _ _) hrow gr)
  have Hw := Lib.hid hw
  have hblk := Lib.hid h.blk
  clear hw hsm hz hrow hn hd
  go_enter Try.func25, Try.ntmps25
  go_wp2_with fail
  refine hrf.mono ?_
  rintro e w' ⟨rfl, rfl⟩
  go_wp2_with fail
  refine Hw.out.mono ?_
  rintro e w1 ⟨rfl, hrow1, gr1⟩
  have hp1 : w1.heap[s.p]? = some (nblk s) := (gr1.block _ (lt_of_blk hblk.out) (Ne.symm hgp)).trans hblk.out
  obtain ⟨c01, c11, c21, c31, c41, f01, f11, f21, f31, f41⟩ := five hp1
  have hx := (fin.out w1 hrow1 gr1).1
  have hx2 := Lib.hid (hx.trans (lost_more hx.nt _ (Gr.refl _ _) ((s.lost : Int) + 1) (by push_cast; rfl)) (by show s.z + 1 ≤ s.z + 4; omega) (fun _ e => e.elim) (fun _ e => e.elim))
  clear hx hrow1 gr1
  go_wp2
  go_ret
  exact ⟨rfl, _, hx2.out, rfl, rfl, rfl⟩
set_option maxHeartbeats 800000 in
theorem twin_c (W : World) (s : Ns) (h : Nt W s) (hz : s.z ≤ 100000000) (i : Nat) (d : Dg) (hd : (s.q none)[i]? = some d) :
    Calls Try.prog 22 #[pt s.p, .int .i64 (i : Int)] W fun e w' => e = .returned (.int .i64 0) ∧ ∃ s', Nx W s w' s' ∧ s'.sent = s.sent ∧ Put s s' d.f d.t d.n d.by' d.sp := by
  obtain ⟨g, cap, n, e, hn, hi, hl, hc1, hc2, hf, a0, a1, a2, a3, a4, hg, hgp⟩ := flight_at h hd
  have hr0 : ref (i : Int) (s.q none).length = 0 := by unfold ref; rw [if_neg]; omega
  have hrf := refuses_c W s h (i : Int)
  rw [hr0] at hrf
  have hdm : d ∈ s.q none := List.mem_of_getElem? hd
  have hok := h.ok none d hdm
  have hsl : Sl W d.bv d.by' := ⟨hok.2.1, by have := hok.1; omega, .inr ⟨⟨d.bk, 0, none⟩, _, rfl, Nat.le_refl _, by have := hok.1; omega, fun j hj => by
    rw [Addr.add_lit, Nat.zero_add]; simp only [World.cell?, h.byt none d hdm]
    have := bs_get d.by' j hj
    simpa using this⟩⟩
  have hst := start_all W s h (by omega) d.f d.t d.n d.bv d.by' d.sp hsl (fun bk => ⟨hok.1, hok.2.1, hok.2.2.1, hok.2.2.2.1, hok.2.2.2.2.1, hok.2.2.2.2.2.1, hok.2.2.2.2.2.2.1, hok.2.2.2.2.2.2.2⟩)
  obtain ⟨c0, c1, c2, c3, c4, f0, f1, f2, f3, f4⟩ := five h.blk
  rw [e] at c3
  have Hst := Lib.hid hst
  clear hst hsl hok hz hn hd
  go_enter Try.func22, Try.ntmps22
  go_wp2_with fail
  refine hrf.mono ?_
  rintro e w' ⟨rfl, rfl⟩
  go_wp2_with fail
  refine Hst.out.mono ?_
  rintro e w1 ⟨rfl, s', hx, h1, h2, h3⟩
  go_wp2
  go_ret
  exact ⟨rfl, s', hx, h1, h3⟩
theorem some_ref {c : Int} (h : c ≠ 0) : (c == 0) = false := by simpa using h
set_option maxHeartbeats 400000 in
theorem drop_no (W : World) (s : Ns) (h : Nt W s) (i : Int) (hr : ref i (s.q none).length = 92) : Calls Try.prog 25 #[pt s.p, .int .i64 i] W fun e w' => e = .returned (.int .i64 92) ∧ W = w' := by
  have hrf := refuses_c W s h i
  rw [hr] at hrf
  go_enter Try.func25, Try.ntmps25
  go_wp2_with fail
  refine hrf.mono ?_
  rintro e w' ⟨rfl, rfl⟩
  go_wp2
  go_ret
  exact ⟨rfl, rfl⟩
set_option maxHeartbeats 400000 in
theorem twin_no (W : World) (s : Ns) (h : Nt W s) (i : Int) (hr : ref i (s.q none).length = 92) : Calls Try.prog 22 #[pt s.p, .int .i64 i] W fun e w' => e = .returned (.int .i64 92) ∧ W = w' := by
  have hrf := refuses_c W s h i
  rw [hr] at hrf
  go_enter Try.func22, Try.ntmps22
  go_wp2_with fail
  refine hrf.mono ?_
  rintro e w' ⟨rfl, rfl⟩
  go_wp2
  go_ret
  exact ⟨rfl, rfl⟩
set_option maxHeartbeats 400000 in
theorem deliver_no (W : World) (s : Ns) (h : Nt W s) (i : Int) (hr : ref i (s.q none).length = 92) : Calls Try.prog 23 #[pt s.p, .int .i64 i] W fun e w' => e = .returned (.int .i64 92) ∧ W = w' := by
  have hrf := refuses_c W s h i
  rw [hr] at hrf
  go_enter Try.func23, Try.ntmps23
  go_wp2_with fail
  refine hrf.mono ?_
  rintro e w' ⟨rfl, rfl⟩
  go_wp2
  go_ret
  exact ⟨rfl, rfl⟩
end Go.Proofs.Ytjffhnpoipolfaa
