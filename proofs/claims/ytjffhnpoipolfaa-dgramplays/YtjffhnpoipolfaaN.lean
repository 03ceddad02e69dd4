/-
  do: taking and sending; kind; long.
-/
import Derived.Test.YtjffhnpoipolfaaM
set_option linter.unusedVariables false
set_option linter.unusedSimpArgs false
namespace Go.Proofs.Ytjffhnpoipolfaa
open Go.RowKit Go.Maps Go.WideMaps
variable {S S' : Nat → Prop} {W W1 W' : World}

/-- A datagram's five parts, as a call answers it. -/
structure Dv where
  f : Int
  t : Int
  n : Int
  a : Option Addr
  l : Nat
  c : Nat
  sp : Bool
abbrev Dv.v (d : Dv) : Value := .agg #[.int .i64 d.f, .int .i64 d.t, .int .u64 d.n, .slice d.a d.l d.c, .bool d.sp]
def LetsT (W0 W : World) (M : World → World → Dv → Bool → Int → Prop) : Prop := ∀ W1 w d b c, G0 W0 W1 → W1.heap.size = W0.heap.size + 3 → M W1 w d b c → W1.heap.size ≤ w.heap.size ∧ ∀ j, W0.heap.size ≤ j → j < W0.heap.size + 3 → w.heap[j]? = W1.heap[j]?
def DidT (W : World) (M : World → World → Dv → Bool → Int → Prop) (e : Ending) (w' : World) : Prop :=
  ∃ d b c W1 w1, e = .returned (.tuple #[d.v, .bool b, .int .i64 c]) ∧ G0 W W1 ∧ W1.heap.size = W.heap.size + 3 ∧ M W1 w1 d b c ∧ Gr (fun j => W.heap.size ≤ j ∧ j < W.heap.size + 3) w1 w'
set_option maxRecDepth 20000 in
set_option maxHeartbeats 1600000 in
theorem do_5 (W : World) (pv : Value) (f t i a m : Int) (bv : Value) (M : World → World → Dv → Bool → Int → Prop) (hpv : ∃ q, pv = .pointer q) (hM : LetsT W W M)
    (hc : ∀ W1, G0 W W1 → W1.heap.size = W.heap.size + 3 → Calls Try.prog 24 #[pv, .int .i64 f] W1 fun e w' => ∃ d b c, e = .returned (.tuple #[d.v, .bool b, .int .i64 c]) ∧ M W1 w' d b c) :
    Calls Try.prog 12 #[pv, ov 5 f t i a m bv] W (DidT W M) := by
  obtain ⟨q, rfl⟩ := hpv
  obtain ⟨hb, hg, hsz⟩ := b3_new W 5 f t i a m bv
  have Hc := Lib.hid (hc _ hg hsz)
  have Hg := Lib.hid hg
  have HM := Lib.hid hM
  have Hsz := Lib.hid hsz
  have Hb := Lib.hid hb
  clear hc hg hM hsz hb
  go_enter Try.func12, Try.ntmps12
  go_wp2_with fail
  refine Hc.out.mono ?_
  rintro e w1 ⟨d, b, c, rfl, hm1⟩
  obtain ⟨hs1, hk1⟩ := HM.out _ _ _ _ _ Hg.out Hsz.out hm1
  have hB1 := Hb.out.kept hk1
  obtain ⟨q0, q1, q2, q3, q4, q5, q6, q7, q8, q9⟩ := five hB1.r
  have Hm1 := Lib.hid hm1
  clear hm1 hk1 hs1
  go_wp2
  refine bodyPost_ret (v := .tuple #[d.v, .bool b, .int .i64 c]) (by simp [results, Try.results12, go_sem, q0, q1, q2, q3, q4]) rfl ?_
  exact ⟨d, b, c, _, w1, rfl, Hg.out, Hsz.out, Hm1.out, (Gr.refl _ _).cell5 _ _ _ _ _ _ (.inl ⟨by omega, by omega⟩)⟩
/-! ### Rows of bytes of the call's own -/
structure Ow (base : Nat) (W : World) (v : Value) (l : List Nat) : Prop where
  byte : ∀ x ∈ l, x < 256
  len : l.length ≤ 140737488355328
  row : W.ownsRow base 5 1 v l.length (bs l)
theorem Ow.sl {base : Nat} {v : Value} {l : List Nat} (h : Ow base W v l) : Sl W v l := by
  refine ⟨h.byte, h.len, ?_⟩
  rcases h.row.2 with ⟨h1, h2⟩ | ⟨g, cap, cur, rfl, hb, hg, hc, hm, _⟩
  · exact .inl ⟨h1, List.length_eq_zero_iff.1 h2⟩
  · refine .inr ⟨⟨g, 0, none⟩, cap, rfl, hc, by unfold maxLen at hm; omega, fun i hi => ?_⟩
    exact h.row.cells rfl i _ (bs_get l i hi)
theorem app_bytes (w : World) (ty : TypeId) (s : Value) (m : List Nat) (g : Nat) (hg : w.heap[g]? = some (.cells #[] 5 (0, 0))) (hs : Sl w s m) :
    ∃ v' w', (Builtin.append_ #[34, 34] ty #[.slice (some ⟨g, 0, none⟩) 0 0, s]).run Try.prog w = .ok v' w' ∧ Ow 0 w' v' m ∧ Gr (fun k => k = g) w w' ∧ ∃ g' cap, v' = .slice (some ⟨g', 0, none⟩) m.length cap ∧ (g' = g ∨ w.heap.size ≤ g') := by
  obtain ⟨i0, hi, hz0, hz1, hz2⟩ := info_parts info5
  have hv : w.ownsRow 0 5 1 (.slice (some ⟨g, 0, none⟩) 0 0) 0 [] := ⟨rfl, .inr ⟨g, 0, #[], rfl, Nat.zero_le _, hg, Nat.le_refl _, by unfold maxLen; omega, rfl, rfl⟩⟩
  rcases hs.at' with ⟨rfl, rfl⟩ | ⟨a, cap, rfl, h1, h2, h3⟩
  · refine ⟨_, w, run_append_owned_none w 0 34 ty 5 i0 1 Try.underlying34 hi _ _ _ hv, ⟨by simp, by simp, hv⟩, Gr.refl _ _, g, 0, rfl, .inl rfl⟩
  · have hlen := hs.len
    obtain ⟨v', w', hr, hown, hgrow, hnil, hloc⟩ := run_append_own_at (P := Try.prog) w 0 34 ty 5 i0 (.int .u8 0) 1 1 Try.underlying34 hi hz0 hz1 hz2 rfl (by decide) _ 0 [] hv a m.length cap (bs m) (by simp)
      (fun j u hj => by
        have hjm : j < m.length := by simpa using (List.getElem?_eq_some_iff.1 hj).1
        rw [bs_get m j hjm] at hj
        rw [← hj]; exact h3 j hjm)
      (fun u hu => by obtain ⟨x, _, rfl⟩ := List.mem_map.1 hu; rfl) (by unfold maxLen; omega) (by omega) (Nat.zero_le _)
    rw [Nat.zero_add, List.nil_append] at hown
    refine ⟨v', w', hr, ⟨hs.byte, hs.len, hown⟩, Gr.of_grown hgrow (fun k e => by cases e; rfl), ?_⟩
    rcases hown.2 with ⟨e, _⟩ | ⟨g', cap', cur, e, _⟩
    · exact absurd (hnil.1 e).1 (by simp)
    · refine ⟨g', cap', e, ?_⟩
      rcases hloc with e1 | e1
      · rw [e] at e1; left; simpa [Value.ownBlock] using e1
      · rw [e] at e1; right; have : g' = w.heap.size := by simpa [Value.ownBlock] using e1
        omega
theorem wpList_appb (w : World) {ops : Array Oper} {rest : List Oper} {o : Oper} {a : Act} {Q : Exit → Act → World → Prop} (hgd : o.guard = none) (x y : Operand)
    (ho : o.op = .call { callee := .builtin .append, args := #[x, y], argTypes := #[34, 34] }) (g : Nat) (s : Value) (m : List Nat) (hx : a.eval x = .slice (some ⟨g, 0, none⟩) 0 0) (hy : a.eval y = s)
    (hg : w.heap[g]? = some (.cells #[] 5 (0, 0))) (hs : Sl w s m)
    (h : ∀ g' cap w', Ow 0 w' (.slice (some ⟨g', 0, none⟩) m.length cap) m → Gr (fun k => k = g) w w' → (g' = g ∨ w.heap.size ≤ g') → wpList Try.prog ops Q rest (a.put o.dst (.slice (some ⟨g', 0, none⟩) m.length cap)) w') :
    wpList Try.prog ops Q (o :: rest) a w := by
  refine wpList_plain hgd fun K hK => ?_
  obtain ⟨v', w', hr, h1, h2, g', cap, rfl, h3⟩ := app_bytes w o.type s m g hg hs
  unfold Oper.wp execOp
  simp only [ho, resolve, invoke, builtin, Sem.run_bind, Sem.run_pure, Result.andThen_ok, List.map_toArray, List.map_cons, List.map_nil, hx, hy, hr]
  exact hK _ _ (h g' cap w' h1 h2 h3)
/-- A row of bytes that may be written to. -/
def By (W : World) (g n : Nat) : Prop := ∃ cur : Array Value, W.heap[g]? = some (.cells cur 5 (0, 0)) ∧ n ≤ cur.size ∧ ∀ j, j < n → ∃ x : Nat, x < 256 ∧ cur[j]? = some (.int .u8 (x : Int))
theorem By.at_ {g n : Nat} (h : By W g n) {j : Nat} (hj : j < n) : ∃ x : Nat, x < 256 ∧ W.cell? ⟨g, j, none⟩ = some (.int .u8 (x : Int)) ∧ W.frozen? ⟨g, j, none⟩ = false := by
  obtain ⟨cur, h1, h2, h3⟩ := h
  obtain ⟨x, hx, e⟩ := h3 j hj
  exact ⟨x, hx, by simp only [World.cell?, h1]; simpa using e, by simp [World.frozen?, h1]⟩
theorem By.set {g n : Nat} (h : By W g n) (j x : Nat) (hx : x < 256) : By (W.setCell ⟨g, j, none⟩ (.int .u8 (x : Int))) g n := by
  obtain ⟨cur, h1, h2, h3⟩ := h
  refine ⟨cur.setIfInBounds j (.int .u8 (x : Int)), heap_setCell_same W g j _ 5 _ h1, by simpa using h2, fun i hi => ?_⟩
  by_cases e : j = i
  · subst e; exact ⟨x, hx, by rw [Array.getElem?_setIfInBounds_self_of_lt (by omega)]⟩
  · obtain ⟨y, hy, e1⟩ := h3 i hi
    exact ⟨y, hy, by rw [Array.getElem?_setIfInBounds_ne e]; exact e1⟩
theorem Ow.by_ {g cap : Nat} {l : List Nat} (h : Ow 0 W (.slice (some ⟨g, 0, none⟩) l.length cap) l) : By W g l.length := by
  rcases h.row.2 with ⟨e, _⟩ | ⟨g', cap', cur, e, h1, h2, h3, h4, h5, h6⟩
  · cases e
  · cases e
    refine ⟨cur, h2, by omega, fun j hj => ⟨l.getD j 0, getD_lt h.byte j, ?_⟩⟩
    have e1 : (cur.toList.take (l.length * 1))[j]? = some (.int .u8 ((l.getD j 0 : Nat) : Int)) := by rw [h6, bs_get l j hj]
    rw [List.getElem?_take_of_lt (by omega)] at e1
    simpa using e1
theorem By.gr {g n : Nat} (h : By W g n) (k : Gr S W W') (hs : ¬ S g) : By W' g n := by
  obtain ⟨cur, h1, h2⟩ := h
  exact ⟨cur, (k.block g (lt_of_blk h1) hs).trans h1, h2⟩
theorem By.lt {g n : Nat} (h : By W g n) : g < W.heap.size := by obtain ⟨cur, h1, _⟩ := h; exact lt_of_blk h1
/-- What Send leaves alone. -/
def LetsS (W0 : World) (M : World → World → Int → Prop) : Prop := ∀ W1 w c, G0 W0 W1 → M W1 w c → W1.heap.size ≤ w.heap.size ∧ ∀ j, W0.heap.size ≤ j → j < W1.heap.size → w.heap[j]? = W1.heap[j]?
def DidS (W : World) (M : World → World → Int → Prop) (e : Ending) (w' : World) : Prop :=
  ∃ c W1 w1, e = .returned (.tuple #[zdv, .bool false, .int .i64 c]) ∧ G0 W W1 ∧ M W1 w1 c ∧ Gr (fun j => W.heap.size ≤ j ∧ j < W1.heap.size) w1 w'
set_option maxRecDepth 20000 in
set_option maxHeartbeats 1600000 in
theorem do_0 (W : World) (pv : Value) (f t i a m : Int) (bv : Value) (l : List Nat) (hs : Sl W bv l) (M : World → World → Int → Prop) (hpv : ∃ q, pv = .pointer q) (hM : LetsS W M)
    (hc : ∀ W1 g cap, G0 W W1 → W.heap.size ≤ g → Sl W1 (.slice (some ⟨g, 0, none⟩) l.length cap) l → Calls Try.prog 21 #[pv, .int .i64 f, .int .i64 t, .slice (some ⟨g, 0, none⟩) l.length cap] W1 fun e w' => ∃ c, e = .returned (.int .i64 c) ∧ M W1 w' c) :
    Calls Try.prog 12 #[pv, ov 0 f t i a m bv] W (DidS W M) := by
  obtain ⟨q, rfl⟩ := hpv
  obtain ⟨hb, hg, hsz⟩ := b3_new W 0 f t i a m bv
  have Hc := Lib.hid hc
  have Hg := Lib.hid hg
  have HM := Lib.hid hM
  have Hsz := Lib.hid hsz
  have Hb := Lib.hid hb
  have hl : (l.length : Int) ≤ 140737488355328 := by have := hs.len; omega
  obtain ⟨ba, bc, rfl⟩ : ∃ a cap, bv = .slice a l.length cap := by
    rcases hs.at' with ⟨rfl, rfl⟩ | ⟨a, cap, rfl, h1, h2, h3⟩
    · exact ⟨_, _, rfl⟩
    · exact ⟨_, _, rfl⟩
  obtain ⟨W4, hW4⟩ : ∃ W4, (W3 W 0 f t i a m (.slice ba l.length bc)).alloc (.cells #[] 5) = W4 := ⟨_, rfl⟩
  have hg4 : G0 (W3 W 0 f t i a m (.slice ba l.length bc)) W4 := by rw [← hW4]; exact Gr.alloc _ _ _
  have hx4 : Hid (W4.heap[W.heap.size + 3]? = some (.cells #[] 5 (0, 0))) := Lib.hid (by rw [← hW4]; have := heap_alloc_new (W3 W 0 f t i a m (.slice ba l.length bc)) (.cells #[] 5); rw [hsz] at this; exact this)
  have hsz4 : Hid (W4.heap.size = W.heap.size + 4) := Lib.hid (by rw [← hW4, size_alloc, hsz])
  have hB4 := Lib.hid (hb.kept (W' := W4) (fun j h1 h2 => hg4.block j (by rw [hsz]; omega) (fun e => e)))
  obtain ⟨p0, p1, p2, p3, p4, p5, p6⟩ := seven hB4.out.o
  have Hg4 := Lib.hid (hg.trans hg4)
  have Hs4 := Lib.hid (hs.g0 (hg.trans hg4))
  clear hc hM hb hs hg hg4
  go_enter Try.func12, Try.ntmps12
  go_wp2_with (first
    | (at_builtin; refine wpList_appb _ rfl _ _ rfl (W.heap.size + 3) (.slice ba l.length bc) l rfl rfl hx4.out Hs4.out ?_; intro g5 cap5 w5 hO5 hG5 hl5; have hB5 := hB4.out.kept (W' := w5) (fun j h1 h2 => hG5.block j (by have := hsz4.out; omega) (by omega)); obtain ⟨p05, p15, p25, p35, p45, p55, p65⟩ := seven hB5.o; have HO5 := Lib.hid hO5; have HG5 := Lib.hid hG5; have Hl5 := Lib.hid hl5; have HB5 := Lib.hid hB5; clear hO5 hG5 hl5 hB5))
  have hW5 : G0 W w5 := Hg4.out.trans' HG5.out (fun i hi e => by omega)
  have hg5 : W.heap.size ≤ g5 := by have := hsz4.out; rcases Hl5.out with e | e <;> omega
  refine (Hc.out w5 g5 cap5 hW5 hg5 HO5.out.sl).mono ?_
  rintro e w6 ⟨c, rfl, hm6⟩
  obtain ⟨hs6, hk6⟩ := HM.out w5 w6 c hW5 hm6
  have hs5 := HG5.out.size
  have hB6 := HB5.out.kept (W' := w6) (fun j h1 h2 => hk6 j h1 (by have := hsz4.out; omega))
  have hY5 := HO5.out.by_
  have hg5l := hY5.lt
  have hY6 : By w6 g5 l.length := by obtain ⟨cur, e1, e2⟩ := hY5; exact ⟨cur, (hk6 g5 hg5 hg5l).trans e1, e2⟩
  have hgne : g5 ≠ W.heap.size ∧ g5 ≠ W.heap.size + 1 ∧ g5 ≠ W.heap.size + 1 + 1 := by
    have := hsz4.out; rcases Hl5.out with e | e <;> omega
  have Hm6 := Lib.hid hm6
  have HY6 := Lib.hid hY6
  have HB6 := Lib.hid hB6
  have HW5 := Lib.hid hW5
  have Hs6 := Lib.hid hs6
  have Hs5 : Hid (W.heap.size + 4 ≤ w5.heap.size) := Lib.hid (by have := hsz4.out; omega)
  have Hne := Lib.hid hgne
  have Hgl := Lib.hid hg5l
  have Hg5 := Lib.hid hg5
  clear hm6 hk6 hs6 hB6 hY5 hY6 hW5 hs5 hgne hg5l hg5
  go_wp2_with fail
  go_loopw [10] (fun i wr => ∃ j : Nat, j ≤ l.length ∧ i = .int .i64 (j : Int) ∧ By wr g5 l.length ∧ Gr (fun k => k = g5) w6 wr) (fun i _ => l.length - (intOf i).toNat)
  case atStart => exact ⟨0, Nat.zero_le _, rfl, HY6.out, Gr.refl _ _⟩
  case round =>
    obtain ⟨j, hj, rfl, hY, hG⟩ := hrel
    by_cases hlt : j < l.length
    · obtain ⟨x, hx, cj, fj⟩ := hY.at_ hlt
      have hjI : (j : Int) < (l.length : Int) := by omega
      have hxx : bits .xor .u8 (x : Int) 255 = ((x ^^^ 255 : Nat) : Int) := u8_xor_nat x 255 hx (by omega)
      have hx2 : x ^^^ 255 < 256 := Nat.xor_lt_two_pow (n := 8) hx (by decide)
      have HYj := Lib.hid hY
      have HGj := Lib.hid hG
      clear hY hG
      go_wp2_with fail
      exact ⟨⟨j + 1, by omega, by go_num, HYj.out.set j _ hx2, HGj.out.cell _ _ (.inl rfl)⟩, by simp [intOf]; omega⟩
    · obtain rfl : j = l.length := by omega
      have hne := Hne.out
      have hsz6 : W.heap.size + 4 ≤ w6.heap.size := Nat.le_trans Hs5.out Hs6.out
      have hBr := HB6.out.kept (W' := wr) (fun j h1 h2 => hG.block j (by omega) (by omega))
      obtain ⟨q0, q1, q2, q3, q4, q5, q6, q7, q8, q9⟩ := five hBr.r
      obtain ⟨n0, n1, n2, n3, n4, n5, n6, n7, n8, n9⟩ := five hBr.n
      have HGj := Lib.hid hG
      clear hY hG hne hsz6 hBr
      go_wp2
      refine bodyPost_ret (v := .tuple #[zdv, .bool false, .int .i64 c]) (by simp [results, Try.results12, go_sem, q0, q1, q2, q3, q4]) rfl ?_
      refine ⟨c, w5, w6, rfl, HW5.out, Hm6.out, (HGj.out.mono (fun i _ e => ?_)).cell5 _ _ _ _ _ _ (.inl ⟨by omega, by have := Hs5.out; omega⟩)⟩
      rw [e]
      exact ⟨Hg5.out, Hgl.out⟩
/-- A call's kind, of a raw number. -/
def kd (k : Int) : Int := if k < 0 ∨ 6 < k then 6 else k
set_option maxHeartbeats 800000 in
theorem kind_c (W : World) (k f t i a m : Int) (bv : Value) (ba : Option Addr) (bl bc : Nat) (e : bv = .slice ba bl bc) : Calls Try.prog 11 #[ov k f t i a m bv] W fun e w' => e = .returned (ov (kd k) f t i a m bv) ∧ G0 W w' := by
  subst e
  unfold kd
  by_cases h1 : k < 0
  · rw [if_pos (.inl h1)]
    go_enter Try.func11, Try.ntmps11
    go_wp2
    exact bodyPost_ret (v := ov 6 f t i a m (.slice ba bl bc)) (by simp [results, Try.results11, go_sem]) rfl ⟨rfl, by exact (Gr.alloc _ _ _).trans (Gr.alloc _ _ _)⟩
  by_cases h2 : 6 < k
  · rw [if_pos (.inr h2)]
    go_enter Try.func11, Try.ntmps11
    go_wp2
    exact bodyPost_ret (v := ov 6 f t i a m (.slice ba bl bc)) (by simp [results, Try.results11, go_sem]) rfl ⟨rfl, by exact (Gr.alloc _ _ _).trans (Gr.alloc _ _ _)⟩
  · rw [if_neg (by omega)]
    go_enter Try.func11, Try.ntmps11
    go_wp2
    exact bodyPost_ret (v := ov k f t i a m (.slice ba bl bc)) (by simp [results, Try.results11, go_sem]) rfl ⟨rfl, by exact (Gr.alloc _ _ _).trans (Gr.alloc _ _ _)⟩
end Go.Proofs.Ytjffhnpoipolfaa
