/-
  DgramKeeps: its walk.
-/
import Derived.Test.YtjffhnpoipolfaaU
set_option linter.unusedVariables false
set_option linter.unusedSimpArgs false
namespace Go.Proofs.Ytjffhnpoipolfaa
open Go.RowKit Go.Maps Go.WideMaps
variable {S S' : Nat → Prop} {W W1 W' : World}

abbrev Opd.cells (o : Opd) : List Value := [.int .i64 o.k, .int .i64 o.f, .int .i64 o.t, .int .i64 o.i, .int .i64 o.a, .int .u32 (o.m : Int), o.bv]
def flatO (l : List Opd) : List Value := l.flatMap Opd.cells
@[simp] theorem flatO_cons (d : Opd) (l : List Opd) : flatO (d :: l) = d.cells ++ flatO l := rfl
theorem flatO_append (a b : List Opd) : flatO (a ++ b) = flatO a ++ flatO b := by simp [flatO]
@[simp] theorem flatO_length (l : List Opd) : (flatO l).length = l.length * 7 := by
  induction l with
  | nil => rfl
  | cons d l ih => simp only [flatO_cons, List.length_append, ih, List.length_cons, List.length_nil]; omega
theorem flatO_get {l : List Opd} {i : Nat} {d : Opd} (h : l[i]? = some d) (j : Nat) (hj : j < 7) : (flatO l)[i * 7 + j]? = d.cells[j]? := by
  induction l generalizing i with
  | nil => simp at h
  | cons x l ih =>
    cases i with
    | zero =>
      simp at h
      subst h
      rw [flatO_cons, Nat.zero_mul, Nat.zero_add, List.getElem?_append_left (by simpa using hj)]
    | succ i =>
      rw [flatO_cons, List.getElem?_append_right (by simp; omega)]
      simp only [List.length_cons, List.length_nil]
      rw [show (i + 1) * 7 + j - (0 + 1 + 1 + 1 + 1 + 1 + 1 + 1) = i * 7 + j by omega]
      exact ih (by simpa using h)
/-- The rows of what was sent, and of the numbers that were taken. -/
abbrev RowS (B : Nat) (W : World) (v : Value) (l : List Opd) : Prop := W.ownsRow B 36 7 v l.length (flatO l)
abbrev nums (l : List Nat) : List Value := l.map (fun (x : Nat) => Value.int .u64 (x : Int))
abbrev RowT (B : Nat) (W : World) (v : Value) (l : List Nat) : Prop := W.ownsRow B 29 1 v l.length (nums l)
theorem row_of_block {B : Nat} {e : TypeId} {z : Nat} {sv : Value} {n : Nat} {xs : List Value} (h : W.ownsRow B e z sv n xs) (hb : ∀ k, sv.ownBlock = some k → W'.heap[k]? = W.heap[k]?) : W'.ownsRow B e z sv n xs := by
  refine ⟨h.1, ?_⟩
  rcases h.2 with h0 | ⟨g, cap, cur, rfl, h1, h2, h3⟩
  · exact .inl h0
  · exact .inr ⟨g, cap, cur, rfl, h1, (hb g rfl).trans h2, h3⟩
theorem row_g0 {B : Nat} {e : TypeId} {z : Nat} {sv : Value} {n : Nat} {xs : List Value} (h : W.ownsRow B e z sv n xs) (g : G0 W W') : W'.ownsRow B e z sv n xs :=
  row_of_block h (fun k e => g.block k (h.lt k e).2 (fun e => e))
theorem row_blk' {B : Nat} {e : TypeId} {z : Nat} {sv : Value} {n : Nat} {xs : List Value} (h : W.ownsRow B e z sv n xs) {k : Nat} (hk : sv.ownBlock = some k) : ∃ cur, W.heap[k]? = some (.cells cur e (0, 0)) := by
  rcases h.2 with ⟨rfl, _⟩ | ⟨g, cap, cur, rfl, h1, h2, h3⟩
  · cases hk
  · cases hk; exact ⟨cur, h2⟩
theorem row_sv {B : Nat} {e : TypeId} {z : Nat} {sv : Value} {n : Nat} {xs : List Value} (h : W.ownsRow B e z sv n xs) : ∃ a cap, sv = .slice a n cap ∧ n ≤ cap ∧ cap ≤ 9223372036854775807 := by
  rcases h.2 with ⟨rfl, rfl⟩ | ⟨g, cap, cur, rfl, h1, h2, h3, h4, _⟩
  · exact ⟨_, _, rfl, Nat.le_refl _, by omega⟩
  · exact ⟨_, _, rfl, h3, by unfold maxLen at h4; omega⟩
/-- A block of another kind is not the net's. -/
theorem Nt.notfp' {s : Ns} (h : Nt W s) {k : Nat} {c : Array Value} {ty : TypeId} {fr : Nat × Nat} (hk : W.heap[k]? = some (.cells c ty fr)) (h1 : ty ≠ 60) (h2 : ty ≠ 39) (h3 : ty ≠ 5) : ¬ Fp s k := by
  rintro (rfl | rfl | ⟨i, e⟩ | ⟨i, d, hd, rfl⟩)
  · rw [h.blk] at hk; simp at hk; exact h1 hk.2.1.symm
  · obtain ⟨es, c, e⟩ := h.map.blk; rw [e] at hk; cases hk
  · obtain ⟨cur, e⟩ := h.rowb e; rw [e] at hk; simp at hk; exact h2 hk.2.1.symm
  · rw [h.byt i d hd] at hk; simp at hk; exact h3 hk.2.1.symm
theorem row_nx {B : Nat} {e : TypeId} {z : Nat} {sv : Value} {n : Nat} {xs : List Value} {s s' : Ns} (h : W.ownsRow B e z sv n xs) (hn : Nt W s) (hx : Nx W s W' s') (h1 : e ≠ 60) (h2 : e ≠ 39) (h3 : e ≠ 5) : W'.ownsRow B e z sv n xs :=
  row_of_block h (fun k hk => by obtain ⟨cur, hc⟩ := row_blk' h hk; exact hx.gr.block k (lt_of_blk hc) (hn.notfp' hc h1 h2 h3))
/-- A row of its own has turned. -/
theorem Hd.row {W0 : World} {s : Ns} (h : Hd W0 W s) {e : TypeId} {z : Nat} {sv : Value} {n : Nat} {xs : List Value} (hr : W.ownsRow W0.heap.size e z sv n xs) (g : Gr (fun k => sv.ownBlock = some k) W W') (h1 : e ≠ 60) (h2 : e ≠ 39) (h3 : e ≠ 5) : Hd W0 W' s :=
  ⟨h.g.trans' g (fun i hi e => by have := (hr.lt i e).1; omega), h.nt.gr g (fun k hk e => by obtain ⟨cur, hc⟩ := row_blk' hr e; exact h.nt.notfp' hc h1 h2 h3 hk), h.fp⟩
theorem info36 : (Try.prog.info? 36).map (fun i => (i.zero, i.size, i.bytes)) = some (some (ov 0 0 0 0 0 0 nl), 7, 72) := by kernel_rfl
theorem info29 : (Try.prog.info? 29).map (fun i => (i.zero, i.size, i.bytes)) = some (some (.int .u64 0), 1, 8) := by kernel_rfl
theorem wpList_appS (w : World) {ops : Array Oper} {rest : List Oper} {o : Oper} {a : Act} {Q : Exit → Act → World → Prop} (hgd : o.guard = none) (x y : Operand)
    (ho : o.op = .call { callee := .builtin .append, args := #[x, y], argTypes := #[22, 22] }) (B g : Nat) (v : Value) (l : List Opd) (d : Opd) (hx : a.eval x = v) (hy : a.eval y = .slice (some ⟨g, 0, none⟩) 1 1)
    (hv : RowS B w v l) (hs : w.heap[g]? = some (.cells #[.int .i64 d.k, .int .i64 d.f, .int .i64 d.t, .int .i64 d.i, .int .i64 d.a, .int .u32 (d.m : Int), d.bv] 36 (0, 0))) (hl : l.length ≤ 300) (hB : B ≤ w.heap.size)
    (h : ∀ a' cap w', RowS B w' (.slice a' (l ++ [d]).length cap) (l ++ [d]) → Gr (fun k => v.ownBlock = some k) w w' → wpList Try.prog ops Q rest (a.put o.dst (.slice a' (l ++ [d]).length cap)) w') :
    wpList Try.prog ops Q (o :: rest) a w := by
  refine wpList_plain hgd fun K hK => ?_
  obtain ⟨i0, hi, hz0, hz1, hz2⟩ := info_parts info36
  obtain ⟨v', w', hr, hown, hgrow, _, hloc⟩ := run_append_own_at (P := Try.prog) w B 22 o.type 36 i0 (ov 0 0 0 0 0 0 nl) 7 72 Try.underlying22 hi hz0 hz1 hz2 rfl (by decide) v l.length (flatO l) hv ⟨g, 0, none⟩ 1 1 d.cells rfl
    (fun j u hu => by
      rw [Addr.add_lit, Nat.zero_add]
      simp only [World.cell?, hs]
      simpa using hu) (fun u hu => by simp only [Opd.cells, List.mem_cons, List.not_mem_nil, or_false] at hu; rcases hu with rfl | rfl | rfl | rfl | rfl | rfl | rfl <;> rfl) (by unfold maxLen; omega) (by omega) hB
  have hown' : RowS B w' v' (l ++ [d]) := by rw [RowS, flatO_append, List.length_append]; simpa [flatO] using hown
  obtain ⟨a', cap, rfl, _, _⟩ := row_sv hown'
  unfold Oper.wp execOp
  simp only [ho, resolve, invoke, builtin, Sem.run_bind, Sem.run_pure, Result.andThen_ok, List.map_toArray, List.map_cons, List.map_nil, hx, hy, hr]
  exact hK _ _ (h a' cap w' hown' (Gr.of_grown hgrow (fun k e => e)))
theorem wpList_appT (w : World) {ops : Array Oper} {rest : List Oper} {o : Oper} {a : Act} {Q : Exit → Act → World → Prop} (hgd : o.guard = none) (x y : Operand)
    (ho : o.op = .call { callee := .builtin .append, args := #[x, y], argTypes := #[51, 51] }) (B g : Nat) (v : Value) (l : List Nat) (d : Nat) (hx : a.eval x = v) (hy : a.eval y = .slice (some ⟨g, 0, none⟩) 1 1)
    (hv : RowT B w v l) (hs : w.heap[g]? = some (.cells #[.int .u64 (d : Int)] 29 (0, 0))) (hl : l.length ≤ 300) (hB : B ≤ w.heap.size)
    (h : ∀ a' cap w', RowT B w' (.slice a' (l ++ [d]).length cap) (l ++ [d]) → Gr (fun k => v.ownBlock = some k) w w' → wpList Try.prog ops Q rest (a.put o.dst (.slice a' (l ++ [d]).length cap)) w') :
    wpList Try.prog ops Q (o :: rest) a w := by
  refine wpList_plain hgd fun K hK => ?_
  obtain ⟨i0, hi, hz0, hz1, hz2⟩ := info_parts info29
  obtain ⟨v', w', hr, hown, hgrow, _, hloc⟩ := run_append_own_at (P := Try.prog) w B 51 o.type 29 i0 (.int .u64 0) 1 8 Try.underlying51 hi hz0 hz1 hz2 rfl (by decide) v l.length (nums l) hv ⟨g, 0, none⟩ 1 1 [.int .u64 (d : Int)] rfl
    (fun j u hu => by
      rw [Addr.add_lit, Nat.zero_add]
      simp only [World.cell?, hs]
      simpa using hu) (fun u hu => by simp at hu; subst hu; rfl) (by unfold maxLen; omega) (by omega) hB
  have hown' : RowT B w' v' (l ++ [d]) := by rw [RowT, nums, List.map_append, List.length_append]; simpa using hown
  obtain ⟨a', cap, rfl, _, _⟩ := row_sv hown'
  unfold Oper.wp execOp
  simp only [ho, resolve, invoke, builtin, Sem.run_bind, Sem.run_pure, Result.andThen_ok, List.map_toArray, List.map_cons, List.map_nil, hx, hy, hr]
  exact hK _ _ (h a' cap w' hown' (Gr.of_grown hgrow (fun k e => e)))
theorem rowS_at {B : Nat} {sv : Value} {l : List Opd} (h : RowS B W sv l) {i : Nat} {d : Opd} (hd : l[i]? = some d) :
    ∃ g cap, sv = .slice (some ⟨g, 0, none⟩) l.length cap ∧ l.length ≤ cap ∧ cap ≤ 9223372036854775807 ∧ W.cell? ⟨g, i * 7, none⟩ = some (.int .i64 d.k) ∧ W.cell? ⟨g, i * 7 + 1, none⟩ = some (.int .i64 d.f) ∧ W.cell? ⟨g, i * 7 + 2, none⟩ = some (.int .i64 d.t) ∧ W.cell? ⟨g, i * 7 + 3, none⟩ = some (.int .i64 d.i) ∧ W.cell? ⟨g, i * 7 + 4, none⟩ = some (.int .i64 d.a) ∧ W.cell? ⟨g, i * 7 + 5, none⟩ = some (.int .u32 (d.m : Int)) ∧ W.cell? ⟨g, i * 7 + 6, none⟩ = some d.bv ∧ g < W.heap.size := by
  have hi : i < l.length := (List.getElem?_eq_some_iff.1 hd).1
  rcases h.2 with ⟨rfl, e⟩ | ⟨g, cap, cur, rfl, h1, h2, h3, h4, h5, h6⟩
  · omega
  · have key : ∀ j, j < 7 → W.cell? ⟨g, i * 7 + j, none⟩ = d.cells[j]? := by
      intro j hj
      have e : (cur.toList.take (l.length * 7))[i * 7 + j]? = d.cells[j]? := by rw [h6, flatO_get hd j hj]
      rw [List.getElem?_take_of_lt (by omega)] at e
      simp only [World.cell?, h2]
      simpa using e
    exact ⟨g, cap, rfl, h3, by unfold maxLen at h4; omega, key 0 (by omega), key 1 (by omega), key 2 (by omega), key 3 (by omega), key 4 (by omega), key 5 (by omega), key 6 (by omega), lt_of_blk h2⟩
theorem rowT_at {B : Nat} {sv : Value} {l : List Nat} (h : RowT B W sv l) {i : Nat} {d : Nat} (hd : l[i]? = some d) :
    ∃ g cap, sv = .slice (some ⟨g, 0, none⟩) l.length cap ∧ l.length ≤ cap ∧ cap ≤ 9223372036854775807 ∧ W.cell? ⟨g, i, none⟩ = some (.int .u64 (d : Int)) ∧ g < W.heap.size := by
  have hi : i < l.length := (List.getElem?_eq_some_iff.1 hd).1
  rcases h.2 with ⟨rfl, e⟩ | ⟨g, cap, cur, rfl, h1, h2, h3, h4, h5, h6⟩
  · omega
  · refine ⟨g, cap, rfl, h3, by unfold maxLen at h4; omega, ?_, lt_of_blk h2⟩
    have e : (cur.toList.take (l.length * 1))[i]? = some (.int .u64 (d : Int)) := by rw [h6, nums, List.getElem?_map, hd]; rfl
    rw [List.getElem?_take_of_lt (by omega)] at e
    simp only [World.cell?, h2]
    simpa using e
theorem kd_b (k : Int) : 0 ≤ kd k ∧ kd k ≤ 6 := by unfold kd; split <;> omega
theorem row_row {B B' : Nat} {e e' : TypeId} {z z' : Nat} {sv sv' : Value} {n n' : Nat} {xs xs' : List Value} (h : W.ownsRow B e z sv n xs) (hr : W.ownsRow B' e' z' sv' n' xs') (he : e ≠ e') (g : Gr (fun k => sv'.ownBlock = some k) W W') : W'.ownsRow B e z sv n xs :=
  row_of_block h (fun k hk => by
    obtain ⟨cur, hc⟩ := row_blk' h hk
    refine g.block k (lt_of_blk hc) (fun e2 => ?_)
    obtain ⟨cur', hc'⟩ := row_blk' hr e2
    rw [hc] at hc'; simp at hc'; exact he hc'.2)
/-- What holds at each round. -/
structure Kr (W wr : World) (s : Ns) (p i : Nat) (sn : List Opd) (tw : Bool) (tk : List Nat) (sS sT : Value) : Prop where
  hd : Hd W wr s
  kp : Kp s sn tw tk
  rs : RowS W.heap.size wr sS sn
  rt : RowT W.heap.size wr sT tk
  sl : ∀ x ∈ sn, Sl W x.bv x.l
  p : s.p = p
  z : s.z ≤ 4 * i
  ls : sn.length ≤ i
  lt : tk.length ≤ i
set_option maxRecDepth 20000 in
set_option maxHeartbeats 8000000 in
theorem keeps_walk (W : World) (a : Option Addr) (len cap : Nat) (o : Nat → Opd) (hS : Scr W a len cap o) : Calls Try.prog 4 #[.slice a len cap] W fun e w' => e = .returned (.bool true) ∧ G0 W w' := by
  have hl := hS.len
  obtain ⟨hc1, hc2⟩ := hS.cap
  have HS := Lib.hid hS
  clear hS
  go_enter Try.func4, Try.ntmps4
  go_wp2_with fail
  refine (alive_c W).mono ?_
  rintro e w1 ⟨rfl, hg1⟩
  have Hg1 := Lib.hid hg1
  clear hg1
  go_wp2_with fail
  refine (long_c w1 a len cap o (HS.out.g0 Hg1.out)).mono ?_
  rintro e w3 ⟨x, rfl, rfl⟩
  cases x with
  | true =>
    go_wp2
    go_ret
    exact ⟨rfl, Hg1.out⟩
  | false =>
    go_wp2_with fail
    refine (new_c w1 5 (by decide)).mono ?_
    rintro e w2 ⟨s2, rfl, hn2', hg2, hs2, hf2⟩
    have hsz1 := Hg1.out.size
    have H2 : Hd W w2 s2 := ⟨Hg1.out.trans hg2, hn2', fun k hk => Nat.le_trans hsz1 (hf2 k hk)⟩
    have hq2 : ∀ i, s2.q i = [] := fun i => by rw [hs2]; rfl
    have F2 : Hid (Kr W w2 s2 s2.p 0 [] false [] nl nl) := Lib.hid ⟨H2, ⟨by rw [hs2]; rfl, fun i d hd => by rw [hq2] at hd; (cases hd), by simp, fun _ i => by rw [hq2]; exact List.nodup_nil, fun _ i j _ d hd => by rw [hq2] at hd; (cases hd), fun _ i d hd => by rw [hq2] at hd; (cases hd)⟩, World.ownsRow_nil _ _ _ _, World.ownsRow_nil _ _ _ _, by simp, rfl, by rw [hs2]; exact Nat.le_refl _, Nat.le_refl _, Nat.le_refl _⟩
    clear hn2' hg2 hs2 hf2 hsz1 H2 hq2
    obtain ⟨p, hp⟩ : ∃ p, s2.p = p := ⟨_, rfl⟩
    rw [hp] at F2 ⊢
    clear hp
    go_wp2_with fail
    go_loopw [5, 6, 7, 8, 9, 10, 11, 12, 13, 14] (fun sS tb sT j _ _ _ _ _ _ wr => ∃ i : Nat, ∃ s sn tw tk, i ≤ len ∧ i ≤ 300 ∧ j = .int .i64 (i : Int) ∧ tb = .bool tw ∧ Kr W wr s p i sn tw tk sS sT) (fun _ _ _ j _ _ _ _ _ _ _ => 300 - (intOf j).toNat)
    case atStart => exact ⟨0, s2, [], false, [], Nat.zero_le _, by omega, rfl, rfl, F2.out⟩
    case round =>
      obtain ⟨i, s, sn, tw, tk, hi, hi3, rfl, rfl, hR⟩ := hrel
      by_cases hlt : i < len ∧ i < 300
      · obtain ⟨hlt, h3⟩ := hlt
        obtain ⟨b, off, rfl, h0, h1, h2, h3', h4, h5, h6⟩ := (HS.out.g0 hR.hd.g).cell i hlt
        have hI : (i : Int) < (len : Int) := by omega
        have hI3 : (i : Int) < 300 := by omega
        have hsl := Lib.hid (HS.out.sl i hlt)
        have hmm := Lib.hid (HS.out.ok i hlt)
        obtain ⟨Sa, Sc, rfl, s1, s2'⟩ := row_sv hR.rs
        obtain ⟨Ta, Tc, rfl, t1, t2⟩ := row_sv hR.rt
        have HR := Lib.hid hR
        have Hi3 := Lib.hid hi3
        have hlS : (sn.length : Int) ≤ 300 := by have := hR.ls; omega
        have hlT : (tk.length : Int) ≤ 300 := by have := hR.lt; omega
        clear hR hi3 hi
        go_wp2_with fail
        refine (kind_c wr (o i).k (o i).f (o i).t (o i).i (o i).a (o i).m (o i).bv _ _ _ rfl).mono ?_
        rintro e w4 ⟨rfl, hg4⟩
        have hs4 : wr.heap.size ≤ w4.heap.size := hg4.size
        obtain ⟨K, hK⟩ : ∃ K, kd (o i).k = K := ⟨_, rfl⟩
        have hKb := Lib.hid (hK ▸ kd_b (o i).k)
        rw [hK]
        have g4 : G0 wr (w4.alloc (.cells #[.int .i64 K, .int .i64 (o i).f, .int .i64 (o i).t, .int .i64 (o i).i, .int .i64 (o i).a, .int .u32 ((o i).m : Int), (o i).bv] 36)) := hg4.trans (Gr.alloc _ _ _)
        have H4 := Lib.hid (HR.out.hd.g0 g4)
        have G4 := Lib.hid g4
        clear hg4 hK g4
        go_wp2_with fail
        have tn := do_net _ s H4.out.nt (by have := HR.out.z; omega) K (o i).f (o i).t (o i).i (o i).a (o i).m (o i).bv (o i).l (hsl.out.g0 H4.out.g) hmm.out hKb.out.1 hKb.out.2
        rw [HR.out.p] at tn
        refine tn.mono ?_
        clear tn
        rintro e w5 ⟨s5, d, ok, c, rfl, hx5, ho5, hb5⟩
        have H5 := Lib.hid (H4.out.step hx5)
        have hp5 := Lib.hid (hx5.p.trans HR.out.p)
        have hz5 : Hid (s5.z ≤ 4 * (i + 1)) := Lib.hid (by have := hx5.z; have := HR.out.z; omega)
        have hB5 : w5.heap[w4.heap.size]? = some (.cells #[.int .i64 K, .int .i64 (o i).f, .int .i64 (o i).t, .int .i64 (o i).i, .int .i64 (o i).a, .int .u32 ((o i).m : Int), (o i).bv] 36 (0, 0)) := (hx5.gr.block _ (by simp) (fun e => by have := (HR.out.hd.nt).lt e; omega)).trans (heap_alloc_new _ _)
        have hw45 : w4.heap.size < w5.heap.size := lt_of_blk hB5
        obtain ⟨p0, p1, p2, p3, p4, p5, p6⟩ := seven hB5
        have RS5 := Lib.hid (row_nx (row_g0 HR.out.rs G4.out) H4.out.nt hx5 (by decide) (by decide) (by decide))
        have RT5 := Lib.hid (row_nx (row_g0 HR.out.rt G4.out) H4.out.nt hx5 (by decide) (by decide) (by decide))
        cases ok with
        | false =>
          have hkp := Lib.hid (kp_step HR.out.kp HR.out.hd.nt { o i with k := K } rfl ho5)
          have HB5 := Lib.hid hB5
          clear hx5 ho5 hb5 hB5
          by_cases hT0 : K = 0 ∧ c = 0
          · obtain ⟨rfl, rfl⟩ := hT0
            rcases tw with _ | _
            all_goals
             have hkp' : Hid (Kp s5 (sn ++ [{ o i with k := 0 }]) _ tk) := Lib.hid (by have := hkp.out; simp only [sn', and_self, if_true] at this; simpa using this)
             obtain ⟨Z, hZ⟩ : ∃ Z, Obj.cells #[.int .i64 d.f, .int .i64 d.t, .int .u64 d.n, .slice d.a d.l d.c, .bool d.sp] 39 = Z := ⟨_, rfl⟩
             obtain ⟨Y, hY⟩ : ∃ Y, Obj.cells #[.int .i64 0, .int .i64 (o i).f, .int .i64 (o i).t, .int .i64 (o i).i, .int .i64 (o i).a, .int .u32 ((o i).m : Int), (o i).bv] 36 = Y := ⟨_, rfl⟩
             have g6 : Hid (G0 w5 ((w5.alloc Z).alloc Y)) := Lib.hid ((Gr.alloc _ _ _).trans (Gr.alloc _ _ _))
             have b6 : Hid (((w5.alloc Z).alloc Y).heap[w5.heap.size + 1]? = some Y) := Lib.hid (by have := heap_alloc_new (w5.alloc Z) Y; rw [size_alloc] at this; exact this)
             rw [← hZ, ← hY] at g6 b6
             clear hZ hY
             go_wp2_with (first
               | (at_builtin; refine wpList_appS _ rfl _ _ rfl W.heap.size (w5.heap.size + 1) (.slice Sa sn.length Sc) sn { o i with k := 0 } rfl rfl (row_g0 RS5.out g6.out) b6.out (by omega) (Nat.le_trans H5.out.g.size g6.out.size) ?_; intro a6 cap6 w6 hr6 hg6; have Hr6 := Lib.hid hr6; have Hg6 := Lib.hid hg6; have hB6 := (hg6.block w4.heap.size (by simp; omega) (fun e => by have := (HR.out.rs.lt _ e).2; omega)).trans (g6.out.block _ hw45 (fun e => e) |>.trans HB5.out); obtain ⟨p06, p16, p26, p36, p46, p56, p66⟩ := seven hB6; clear hr6 hg6 hB6))
             exact ⟨⟨i + 1, s5, sn ++ [{ o i with k := 0 }], _, tk, by omega, by omega, by go_num, rfl, ⟨(H5.out.g0 g6.out).row (row_g0 RS5.out g6.out) Hg6.out (by decide) (by decide) (by decide), hkp'.out, by simpa using Hr6.out, row_row (row_g0 RT5.out g6.out) (row_g0 RS5.out g6.out) (by decide) Hg6.out, fun x hx => by
               rcases List.mem_append.1 hx with hx | hx
               · exact HR.out.sl x hx
               · rw [List.mem_singleton] at hx; subst hx; exact hsl.out, hp5.out, hz5.out, by have := HR.out.ls; simp; omega, by have := HR.out.lt; omega⟩⟩, by simp [intOf]; omega⟩
          · have hkp' : Hid (Kp s5 sn (tw || (decide (K = 3) && decide (c = 0))) tk) := Lib.hid (by have := hkp.out; rw [show sn' sn { o i with k := K } K c = sn from if_neg hT0] at this; exact this)
            have hT1 : ((K == 0) && (c == 0)) = false := by
              rcases h1 : (K == 0) with _ | _
              · rfl
              · rcases h2 : (c == 0) with _ | _
                · rfl
                · exact absurd ⟨by simpa using h1, by simpa using h2⟩ hT0
            clear hT0 hkp
            rcases hK0 : (K == 0) with _ | _ <;> rcases hK3 : (K == 3) with _ | _ <;> rcases hc0 : (c == 0) with _ | _ <;> rcases tw with _ | _
            all_goals
              rw [hK0, hc0] at hT1
              simp only [Bool.and_self, Bool.true_eq_false, Bool.and_false, Bool.and_true, Bool.false_and] at hT1
            all_goals try cases hT1
            all_goals
              go_wp2_with fail
              refine ⟨⟨i + 1, s5, sn, _, tk, by omega, by omega, by go_num, rfl, ⟨H5.out.g0 (Gr.alloc _ _ _), ?_, row_g0 RS5.out (Gr.alloc _ _ _), row_g0 RT5.out (Gr.alloc _ _ _), HR.out.sl, hp5.out, hz5.out, by have := HR.out.ls; omega, by have := HR.out.lt; omega⟩⟩, by simp [intOf]; omega⟩
              have h9 := hkp'.out
              simp only [beq_iff_eq, beq_eq_false_iff_ne, ne_eq] at hK3 hc0
              simpa [hK3, hc0] using h9
        | true =>
          obtain ⟨rfl, rfl, hnod, hs5, hl5, D, r, hq, rfl, hq5⟩ : K = 5 ∧ c = 0 ∧ nod (o i).f s.nodes = true ∧ s5.sent = s.sent ∧ s5.lost = s.lost ∧ ∃ D r, s.q (some (o i).f) = D :: r ∧ d = ⟨D.f, D.t, (D.n : Int), some ⟨D.bk, 0, none⟩, D.by'.length, D.by'.length, D.sp⟩ ∧ s5.q = upd s.q (some (o i).f) r := by
            rcases ho5 with ⟨_, e, _⟩ | ⟨_, e, _⟩ | ⟨e1, _, e2, e3, e4, e5, e6⟩
            · cases e
            · cases e
            · exact ⟨e1, e2, e3, e4, e5, e6⟩
          obtain ⟨hby, hnf⟩ := hb5 rfl D r hq
          have hDm : D ∈ s.q (some (o i).f) := by rw [hq]; simp
          have hDok := HR.out.hd.nt.ok _ D hDm
          have hDt : D.t = (o i).f := HR.out.hd.nt.bx _ D hDm
          obtain ⟨hkp, hout, wo, hwo, hwf, hwt, hwn⟩ := kp_take HR.out.kp HR.out.hd.nt hq hs5 hq5
          obtain ⟨N, hN⟩ : ∃ N, D.n = N + 1 := ⟨D.n - 1, by have := hDok.2.2.1; omega⟩
          rw [hN, Nat.add_sub_cancel] at hwo
          have hNl : N < sn.length := (List.getElem?_eq_some_iff.1 hwo).1
          have hslD := Lib.hid (sl_blk hby hDok.2.1 hDok.1)
          have hwl := Lib.hid (HR.out.sl wo (List.mem_of_getElem? hwo))
          have HB5 := Lib.hid hB5
          have Hkp := Lib.hid hkp
          have Hout := Lib.hid hout
          have Hwo := Lib.hid hwo
          have Hwn := Lib.hid hwn
          have hwll : wo.l.length = D.by'.length := by have := hwn.1; omega
          have hDl : (D.by'.length : Int) ≤ 1212 := by have := hDok.1; omega
          have hDn : (D.n : Int) = (N : Int) + 1 := by omega
          have hNI : (N : Int) + 1 ≤ (sn.length : Int) := by omega
          have HN := Lib.hid hN
          obtain ⟨g9, cap9, eS, _, _, y0, y1, y2, y3, y4, y5, y6, hg9⟩ := rowS_at RS5.out Hwo.out
          cases eS
          clear hx5 ho5 hb5 hB5 hby hnf hDok hkp hout hwo hwn hN hq hq5 hs5 hl5 hDm
          have hwl2 : Hid (Sl W (.slice wo.ba D.by'.length wo.bc) wo.l) := Lib.hid (by rw [← hwll]; exact hwl.out)
          rcases tw with _ | _
          · go_wp2_with fail
            refine (near_c _ (.slice wo.ba D.by'.length wo.bc) (.slice (some ⟨D.bk, 0, none⟩) D.by'.length D.by'.length) wo.l D.by' D.sp (hwl2.out.g0 (H5.out.g.trans ((Gr.alloc _ _ _).trans (Gr.alloc _ _ _)))) (hslD.out.g0 ((Gr.alloc _ _ _).trans (Gr.alloc _ _ _))) Hwn.out).mono ?_
            rintro e w7 ⟨rfl, hg7⟩
            have G7 := Lib.hid (((Gr.alloc w5 _ _).trans (Gr.alloc _ _ _)).trans hg7)
            have X7 : w7.heap[w5.heap.size]? = some (.cells #[.int .i64 D.f, .int .i64 (o i).f, .int .u64 ((N : Int) + 1), .slice (some ⟨D.bk, 0, none⟩) D.by'.length D.by'.length, .bool D.sp] 39 (0, 0)) := (hg7.block _ (by simp; omega) (fun e => e)).trans ((heap_alloc_old _ _ (by simp)).trans (heap_alloc_new _ _))
            have hX7l := lt_of_blk X7
            obtain ⟨q0, q1, q2, q3, q4, _⟩ := five X7
            have HX7 := Lib.hid X7
            clear hg7 X7
            go_wp2_with fail
            go_loopw [14] (fun j wt => ∃ k : Nat, k ≤ tk.length ∧ j = .int .i64 (k : Int) ∧ G0 w7 wt) (fun j _ => tk.length - (intOf j).toNat)
            case atStart => exact ⟨0, Nat.zero_le _, rfl, Gr.refl _ _⟩
            case round =>
              obtain ⟨k, hk0, rfl, hg2⟩ := hrel
              have q2' := cell_g0 q2 hg2
              by_cases hlt2 : k < tk.length
              · have hkI : (k : Int) < (tk.length : Int) := by omega
                have hgk : tk[k]? = some (tk.getD k 0) := by rw [List.getD_eq_getElem?_getD, List.getElem?_eq_getElem hlt2]; rfl
                obtain ⟨gT, cT, eT, _, _, zT, _⟩ := rowT_at (row_g0 (row_g0 RT5.out G7.out) hg2) hgk
                cases eT
                have Hg2 := Lib.hid hg2
                clear hg2 hgk
                by_cases hk : tk.getD k 0 = N + 1
                · exact absurd (by
                    rw [HN.out, ← hk]
                    have : tk[k]? = some (tk.getD k 0) := by rw [List.getD_eq_getElem?_getD, List.getElem?_eq_getElem hlt2]; rfl
                    exact List.mem_of_getElem? this) (Hout.out (by first | rfl | trivial))
                · have hne : (((tk.getD k 0 : Nat) : Int) == (N : Int) + 1) = false := beq_eq_false_iff_ne.2 (by omega)
                  have hne2 : ¬ ((tk.getD k 0 : Nat) : Int) = (N : Int) + 1 := by omega
                  generalize tk.getD k 0 = y at *
                  go_wp2_with fail
                  go_quiet (fail)
                  go_wp2_with fail
                  exact ⟨⟨k + 1, by omega, by go_num, Hg2.out.trans (by first | exact Gr.refl _ _ | exact Gr.drew _ _ | exact Gr.drewN _ _ _)⟩, by simp [intOf]; omega⟩
              · have hkI : ¬ (k : Int) < (tk.length : Int) := by omega
                obtain rfl : k = tk.length := by omega
                have RT2 := Lib.hid (row_g0 RT5.out (G7.out.trans hg2))
                have Hg2 := Lib.hid hg2
                have G8 : Hid (G0 wr (wr.alloc (.cells #[.int .u64 ((N : Int) + 1)] 29))) := Lib.hid (Gr.alloc _ _ _)
                have B8 : Hid ((wr.alloc (.cells #[.int .u64 (((N + 1 : Nat)) : Int)] 29)).heap[wr.heap.size]? = some (.cells #[.int .u64 (((N + 1 : Nat)) : Int)] 29 (0, 0))) := Lib.hid (heap_alloc_new _ _)
                rw [show (((N + 1 : Nat)) : Int) = (N : Int) + 1 by push_cast; rfl] at B8
                clear hg2
                go_wp2_with (first
                  | (at_builtin; refine wpList_appT _ rfl _ _ rfl W.heap.size wr.heap.size (.slice Ta tk.length Tc) tk (N + 1) rfl rfl (row_g0 RT2.out G8.out) (by rw [show (((N + 1 : Nat)) : Int) = (N : Int) + 1 by push_cast; rfl]; exact B8.out) (by omega) (by have := H5.out.g.size; have := G7.out.size; have := Hg2.out.size; have := G8.out.size; omega) ?_; intro a9 cap9' w9 hr9 hgr9; have Hr9 := Lib.hid hr9; have Hgr9 := Lib.hid hgr9; clear hr9 hgr9))
                have gAll := (G7.out.trans Hg2.out).trans G8.out
                exact ⟨⟨i + 1, s5, sn, false, tk ++ [N + 1], by omega, by omega, by go_num, rfl, ⟨(H5.out.g0 gAll).row (row_g0 RT5.out gAll) Hgr9.out (by decide) (by decide) (by decide), by have := Hkp.out; rw [HN.out] at this; exact this, row_row (row_g0 RS5.out gAll) (row_g0 RT5.out gAll) (by decide) Hgr9.out, by simpa using Hr9.out, HR.out.sl, hp5.out, hz5.out, by have := HR.out.ls; omega, by have := HR.out.lt; simp; omega⟩⟩, by simp [intOf]; omega⟩
          · go_wp2_with fail
            refine (near_c _ (.slice wo.ba D.by'.length wo.bc) (.slice (some ⟨D.bk, 0, none⟩) D.by'.length D.by'.length) wo.l D.by' D.sp (hwl2.out.g0 (H5.out.g.trans ((Gr.alloc _ _ _).trans (Gr.alloc _ _ _)))) (hslD.out.g0 ((Gr.alloc _ _ _).trans (Gr.alloc _ _ _))) Hwn.out).mono ?_
            rintro e w7 ⟨rfl, hg7⟩
            have G7 := Lib.hid (((Gr.alloc w5 _ _).trans (Gr.alloc _ _ _)).trans hg7)
            have X7 : w7.heap[w5.heap.size]? = some (.cells #[.int .i64 D.f, .int .i64 (o i).f, .int .u64 ((N : Int) + 1), .slice (some ⟨D.bk, 0, none⟩) D.by'.length D.by'.length, .bool D.sp] 39 (0, 0)) := (hg7.block _ (by simp; omega) (fun e => e)).trans ((heap_alloc_old _ _ (by simp)).trans (heap_alloc_new _ _))
            have hX7l := lt_of_blk X7
            obtain ⟨q0, q1, q2, q3, q4, _⟩ := five X7
            have HX7 := Lib.hid X7
            clear hg7 X7
            go_wp2_with fail
            go_loopw [14] (fun j wt => ∃ k : Nat, k ≤ tk.length ∧ j = .int .i64 (k : Int) ∧ G0 w7 wt) (fun j _ => tk.length - (intOf j).toNat)
            case atStart => exact ⟨0, Nat.zero_le _, rfl, Gr.refl _ _⟩
            case round =>
              obtain ⟨k, hk0, rfl, hg2⟩ := hrel
              have q2' := cell_g0 q2 hg2
              by_cases hlt2 : k < tk.length
              · have hkI : (k : Int) < (tk.length : Int) := by omega
                have hgk : tk[k]? = some (tk.getD k 0) := by rw [List.getD_eq_getElem?_getD, List.getElem?_eq_getElem hlt2]; rfl
                obtain ⟨gT, cT, eT, _, _, zT, _⟩ := rowT_at (row_g0 (row_g0 RT5.out G7.out) hg2) hgk
                cases eT
                have Hg2 := Lib.hid hg2
                clear hg2 hgk
                by_cases hk : tk.getD k 0 = N + 1
                · have hne : (((tk.getD k 0 : Nat) : Int) == (N : Int) + 1) = true := beq_iff_eq.2 (by omega)
                  have hne2 : ((tk.getD k 0 : Nat) : Int) = (N : Int) + 1 := by omega
                  generalize tk.getD k 0 = y at *
                  go_wp2_with fail
                  go_quiet (fail)
                  go_wp2_with fail
                  exact ⟨⟨k + 1, by omega, by go_num, Hg2.out.trans (by first | exact Gr.refl _ _ | exact Gr.drew _ _ | exact Gr.drewN _ _ _)⟩, by simp [intOf]; omega⟩
                · have hne : (((tk.getD k 0 : Nat) : Int) == (N : Int) + 1) = false := beq_eq_false_iff_ne.2 (by omega)
                  have hne2 : ¬ ((tk.getD k 0 : Nat) : Int) = (N : Int) + 1 := by omega
                  generalize tk.getD k 0 = y at *
                  go_wp2_with fail
                  go_quiet (fail)
                  go_wp2_with fail
                  exact ⟨⟨k + 1, by omega, by go_num, Hg2.out.trans (by first | exact Gr.refl _ _ | exact Gr.drew _ _ | exact Gr.drewN _ _ _)⟩, by simp [intOf]; omega⟩
              · have hkI : ¬ (k : Int) < (tk.length : Int) := by omega
                obtain rfl : k = tk.length := by omega
                have RT2 := Lib.hid (row_g0 RT5.out (G7.out.trans hg2))
                have Hg2 := Lib.hid hg2
                have G8 : Hid (G0 wr (wr.alloc (.cells #[.int .u64 ((N : Int) + 1)] 29))) := Lib.hid (Gr.alloc _ _ _)
                have B8 : Hid ((wr.alloc (.cells #[.int .u64 (((N + 1 : Nat)) : Int)] 29)).heap[wr.heap.size]? = some (.cells #[.int .u64 (((N + 1 : Nat)) : Int)] 29 (0, 0))) := Lib.hid (heap_alloc_new _ _)
                rw [show (((N + 1 : Nat)) : Int) = (N : Int) + 1 by push_cast; rfl] at B8
                clear hg2
                go_wp2_with (first
                  | (at_builtin; refine wpList_appT _ rfl _ _ rfl W.heap.size wr.heap.size (.slice Ta tk.length Tc) tk (N + 1) rfl rfl (row_g0 RT2.out G8.out) (by rw [show (((N + 1 : Nat)) : Int) = (N : Int) + 1 by push_cast; rfl]; exact B8.out) (by omega) (by have := H5.out.g.size; have := G7.out.size; have := Hg2.out.size; have := G8.out.size; omega) ?_; intro a9 cap9' w9 hr9 hgr9; have Hr9 := Lib.hid hr9; have Hgr9 := Lib.hid hgr9; clear hr9 hgr9))
                have gAll := (G7.out.trans Hg2.out).trans G8.out
                exact ⟨⟨i + 1, s5, sn, true, tk ++ [N + 1], by omega, by omega, by go_num, rfl, ⟨(H5.out.g0 gAll).row (row_g0 RT5.out gAll) Hgr9.out (by decide) (by decide) (by decide), by have := Hkp.out; rw [HN.out] at this; exact this, row_row (row_g0 RS5.out gAll) (row_g0 RT5.out gAll) (by decide) Hgr9.out, by simpa using Hr9.out, HR.out.sl, hp5.out, hz5.out, by have := HR.out.ls; omega, by have := HR.out.lt; simp; omega⟩⟩, by simp [intOf]; omega⟩
      · by_cases hlt2 : i < len
        · have hI : (i : Int) < (len : Int) := by omega
          have hI3 : ¬ (i : Int) < 300 := by omega
          have HR := Lib.hid hR
          clear hR
          go_wp2
          go_ret
          exact ⟨rfl, HR.out.hd.g⟩
        · have hI : ¬ (i : Int) < (len : Int) := by omega
          have HR := Lib.hid hR
          clear hR
          go_wp2
          go_ret
          exact ⟨rfl, HR.out.hd.g⟩
end Go.Proofs.Ytjffhnpoipolfaa
