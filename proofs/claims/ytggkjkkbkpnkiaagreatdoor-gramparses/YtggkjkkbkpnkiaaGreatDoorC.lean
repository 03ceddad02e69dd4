/-
  Carried over from another seat of ours (C).
-/
import Derived.Test.YtggkjkkbkpnkiaaGreatDoorA
import Derived.Lib.Walk
import Derived.Lib.BufferWrite
import Derived.Lib.UnsafeStr
import Derived.Laws.MakeOwn
import Derived.Deep.RegionWith
import Derived.Lib.ConvBytes
import Derived.WideLaws
set_option linter.unusedVariables false
set_option linter.unusedSimpArgs false
namespace Go.Proofs.YtggkjkkbkpnkiaaGreatDoor
open Go.RowKit

/-- The first place from i on whose byte is not of the kind. -/
def span (p : Int → Bool) (s : ByteArray) (i : Nat) : Nat :=
  if h : i < s.size then (if p (bt s i) = true then span p s (i + 1) else i) else i
theorem span_yes {p : Int → Bool} {s : ByteArray} {i : Nat} (h : p (pk s i) = true) (h0 : p 0 = false) : i < s.size ∧ span p s i = span p s (i + 1) := by
  have hlt : i < s.size := lt_of_pk (fun e => by rw [e, h0] at h; cases h)
  refine ⟨hlt, ?_⟩
  rw [pk, if_pos hlt] at h
  rw [span, dif_pos hlt, if_pos h]
theorem span_no {p : Int → Bool} {s : ByteArray} {i : Nat} (h : p (pk s i) = false) : span p s i = i := by
  rw [span]
  by_cases hlt : i < s.size
  · rw [pk, if_pos hlt] at h; rw [dif_pos hlt, if_neg (by rw [h]; decide)]
  · rw [dif_neg hlt]
theorem span_ge (p : Int → Bool) (s : ByteArray) (i : Nat) : i ≤ span p s i := by
  fun_induction span p s i <;> omega
theorem span_le {p : Int → Bool} {s : ByteArray} {i : Nat} (hi : i ≤ s.size) : span p s i ≤ s.size := by
  fun_induction span p s i <;> omega
/-- The place of a reader. -/
def atOf (w : World) (b : Nat) : Nat := match w.cell? ⟨b, 1, none⟩ with | some (.int _ z) => z.toNat | _ => 0
theorem Rd.atOf {W : World} {b : Nat} {s : ByteArray} {i : Nat} (h : Rd W b s i) : atOf W b = i := by
  obtain ⟨c0, c1, f0, f1⟩ := h.facts
  simp [YtggkjkkbkpnkiaaGreatDoor.atOf, c1]
theorem sl (s : ByteArray) (a c : Nat) (h1 : a ≤ c) (h2 : c ≤ s.size) (w : World) : (Instr.slice 9 (.string s) (some (.int .i64 (a : Int))) (some (.int .i64 (c : Int))) none).run Tryz.prog w = .ok (.string (s.extract a c)) w := by
  have k1 : (a : Int) ≤ c := by omega
  have k2 : (c : Int) ≤ s.size := by omega
  simp [Instr.slice, run_underlying Tryz.underlying9, Instr.sliceBounds, run_sliceBound, k1, k2, h1, h2]
theorem info5 : (Tryz.prog.info? 5).map (fun i => (i.zero, i.size, i.bytes)) = some (some (.int .u8 0), 1, 1) := by kernel_rfl
set_option maxHeartbeats 4000000 in
set_option maxRecDepth 100000 in
theorem clone0_c (s : ByteArray) (w : World) (h1 : 1 ≤ s.size) (h2 : s.size ≤ 65536) :
    Calls Tryz.prog 59 #[.string s] w fun e w' => e = .returned (.string s) ∧ Below w.heap.size w w' := by
  obtain ⟨i0, hi, hz0, hz1, hz2⟩ := info_parts info5
  have hinfo : (Tryz.prog.info? 5).map (·.size) = some 1 := by rw [hi]; simp [hz1]
  have hco : Tryz.prog.cellsOf 5 = 1 := by simp [Program.cellsOf, hi, hz1]
  have h0 : ((s.size : Int) == 0) = false := beq_eq_false_iff_ne.2 (by omega)
  obtain ⟨M, hM⟩ : ∃ M, M = madeCells (Value.int .u8 0).cells (((s.size : Nat) : Int).toNat * i0.size) := ⟨_, rfl⟩
  have hMs : M.size = s.size := by rw [hM, size_madeCells, hz1]; simp
  have hmk : ∀ W : World, (Instr.makeSlice 25 (.int .i64 (s.size : Int)) (.int .i64 (s.size : Int))).run Tryz.prog W = .ok (.slice (some ⟨W.heap.size, 0, none⟩) s.size s.size) (W.alloc (.cells M 5)) := fun W => by
    have h := run_make (P := Tryz.prog) W 25 5 i0 (.int .u8 0) Tryz.underlying25 hi hz0 .i64 .i64 (s.size : Int) (s.size : Int) (by omega) (by omega) (by rw [hz2]; omega) (by omega)
    rw [← hM] at h
    simpa using h
  clear hM
  have hcp := Lib.run_copy_row_string (P := Tryz.prog) (w.alloc (.cells M 5)) 25 9 3 5 w.heap.size 0 s.size s.size s M 5 Tryz.underlying25 hinfo (heap_alloc_new w _) (Nat.le_refl _) (by omega)
  obtain ⟨Y, hY⟩ : ∃ Y, Y = (M.toList.take 0 ++ Lib.byteCells s.data.toList ++ M.toList.drop (0 + s.size)).toArray := ⟨_, rfl⟩
  rw [← hY] at hcp
  have hYl : Y.toList = Lib.byteCells s.data.toList := by
    rw [hY, List.toList_toArray, List.take_zero, List.nil_append, List.drop_of_length_le (by rw [Array.length_toList]; omega), List.append_nil]
  have hYs : Y.size = s.size := by rw [← Array.length_toList, hYl, Lib.byteCells_length, ← Lib.size_eq]
  have hgY : ((w.alloc (.cells M 5)).setRow w.heap.size Y).heap[w.heap.size]? = some (.cells Y 5 (0, 0)) := setRow_heap _ _ M _ 5 (0, 0) (heap_alloc_new w _)
  have hne : s.data.toList ≠ [] := by
    intro e
    have h3 : s.size = s.data.toList.length := Lib.size_eq s
    rw [e] at h3
    have h4 : s.size = 0 := h3
    omega
  have hUS := Lib.run_unsafeString_row (P := Tryz.prog) ((w.alloc (.cells M 5)).setRow w.heap.size Y) 98 3 9 5 Tryz.underlying98 hco w.heap.size Y.size (by unfold World.shape?; rw [hgY]) s.data.toList hne (by rw [← Lib.size_eq]; omega) (by rw [← Lib.size_eq]; omega)
    (fun j x hx => Lib.cells_of_row hgY Y.size j _ (by rw [List.take_of_length_le (by rw [Array.length_toList]; exact Nat.le_refl _), hYl]; simp [Lib.byteCells, hx]))
  rw [← Lib.size_eq] at hUS
  clear hY
  go_enter Tryz.func59, Tryz.ntmps59
  go_wp2
  go_ret
  have hb1 : Below w.heap.size w (w.alloc (.cells M 5)) := (Below.refl _ w).alloc (Nat.le_refl _) _
  have hb2 : Below w.heap.size (w.alloc (.cells M 5)) ((w.alloc (.cells M 5)).setRow w.heap.size Y) := ⟨rfl, rfl, rfl, by simp, fun k hk => setRow_other _ _ _ _ (by omega)⟩
  exact ⟨rfl, Lib.below_freeze (hb1.trans hb2) (p := ⟨w.heap.size, 0, none⟩) (Nat.le_refl _) _⟩
theorem clone_c (s : ByteArray) (w : World) (h1 : 1 ≤ s.size) (h2 : s.size ≤ 65536) :
    Calls Tryz.prog 44 #[.string s] w fun e w' => e = .returned (.string s) ∧ Gr (fun _ => False) w w' := by
  go_enter Tryz.func44, Tryz.ntmps44
  go_wp2_with (first | (go_at_call 59; refine (clone0_c s _ h1 h2).mono ?_; rintro e w' ⟨rfl, hb⟩))
  go_ret
  exact ⟨rfl, Gr.of_below hb _⟩
theorem bt_ext (s : ByteArray) (i j k : Nat) (h : j ≤ s.size) (hk : k < j - i) : bt (s.extract i j) k = bt s (i + k) := by
  have h1 : k < (s.extract i j).data.size := by rw [ByteArray.data_extract, Array.size_extract]; show k < min j s.size - i; omega
  have h2 : i + k < s.data.size := by show i + k < s.size; omega
  unfold bt
  rw [Array.getElem?_eq_getElem h1, Array.getElem?_eq_getElem h2]
  simp [ByteArray.data_extract]
theorem span_all {p : Int → Bool} {s : ByteArray} {i : Nat} : ∀ k, i ≤ k → k < span p s i → p (bt s k) = true := by
  fun_induction span p s i with
  | case1 i hlt hp ih =>
    intro k h1 h2
    by_cases e : k = i
    · subst e; exact hp
    · exact ih k (by omega) h2
  | case2 i hlt hp => intro k h1 h2; omega
  | case3 i hlt => intro k h1 h2; omega
/-- The number that the first so many digits make. -/
def dva (t : ByteArray) : Nat → Int
  | 0 => 0
  | k + 1 => dva t k * 10 + (bt t k - 48)
theorem dva_mono {t : ByteArray} (hD : ∀ k, k < t.size → dig (bt t k) = true) : ∀ (d k : Nat), k + d ≤ t.size → 0 ≤ dva t k → dva t k ≤ dva t (k + d)
  | 0, k, _, _ => Int.le_refl _
  | d + 1, k, h, h0 => by
    have h1 := hD (k + d) (by omega)
    have h2 := dva_mono hD d k (by omega) h0
    simp [dig] at h1
    rw [show k + (d + 1) = (k + d) + 1 by omega, dva]
    omega
theorem dva_nonneg {t : ByteArray} (hD : ∀ k, k < t.size → dig (bt t k) = true) (k : Nat) (hk : k ≤ t.size) : 0 ≤ dva t k := by
  have := dva_mono hD k 0 (by omega) (by simp [dva])
  simpa [dva] using this
theorem conv_c (t : ByteArray) (W : World) : ∃ cap W1, (convert 9 25 (.string t)).run Tryz.prog W = .ok (.slice (some ⟨W.heap.size, 0, none⟩) t.size cap) W1 ∧ Gr (fun _ => False) W W1 ∧
    (∀ k, k < t.size → W1.cell? ⟨W.heap.size, k, none⟩ = some (.int .u8 (bt t k))) := by
  refine ⟨_, _, Lib.run_convert_string_bytes W 9 25 5 t Tryz.underlying9 Tryz.underlying25 Tryz.underlying5, ⟨rfl, rfl, rfl, ?_, fun k hk _ => Lib.bytesWorld_at_old W 5 t k hk⟩, fun k hk => ?_⟩
  · rw [Lib.bytesWorld_size]; omega
  · rw [Lib.bytesWorld_cell W 5 t k hk]
    simp [bt, List.getD]
theorem ne_nil {t : ByteArray} (h : 1 ≤ t.size) : t.toList.isEmpty = false := by
  have e : t.toList = t.data.toList := ByteArray.toList_eq t
  rw [e]
  have : t.data.toList.length = t.size := Array.length_toList
  cases hl : t.data.toList with
  | nil => rw [hl] at this; simp at this; omega
  | cons a l => rfl
/-- What the library tells of digits: the number, or the greatest and that it is out of range. -/
def puV (M v : Int) : Value := if v ≤ M then .tuple #[.int .u64 v, .nilIface] else .tuple #[.int .u64 M, .iface 89 (.int .i64 1)]
theorem puV_no {t : ByteArray} (hD : ∀ k, k < t.size → dig (bt t k) = true) (M : Int) (k : Nat) (hk : k ≤ t.size) (h : M < dva t k) : puV M (dva t t.size) = .tuple #[.int .u64 M, .iface 89 (.int .i64 1)] := by
  have h1 := dva_mono hD (t.size - k) k (by omega) (dva_nonneg hD k hk)
  rw [show k + (t.size - k) = t.size by omega] at h1
  rw [puV, if_neg (by omega)]
set_option maxRecDepth 20000 in
set_option maxHeartbeats 1600000 in
theorem pu64 (W : World) (t : ByteArray) (h1 : 1 ≤ t.size) (h2 : t.size ≤ 65536) (hD : ∀ k, k < t.size → dig (bt t k) = true) :
    Calls Tryz.prog 64 #[.string t, .int .i64 10, .int .i64 64] W fun e w' => e = .returned (puV 18446744073709551615 (dva t t.size)) ∧ Gr (fun _ => False) W w' := by
  have h2I : (t.size : Int) ≤ 65536 := by omega
  clear h2
  have hz := ne_nil h1
  obtain ⟨cap, W1, hcv, hg1, hcell⟩ := conv_c t W
  have Hcell := Lib.hid hcell
  replace hD := Lib.hid hD
  obtain ⟨r, hr⟩ : ∃ r, r = puV 18446744073709551615 (dva t t.size) := ⟨_, rfl⟩
  rw [← hr]
  have Hr := Lib.hid hr
  clear hr hcell
  have hm : IntKind.u64.wrap (IntKind.u64.wrap 18446744073709551616 - 1) = 18446744073709551615 := by decide
  go_enter Tryz.func64, Tryz.ntmps64
  go_wp2_with fail
  go_loopw [12, 13, 101] (fun q u v wr => ∃ (k : Nat) (a : Int), k ≤ t.size ∧ q = .bool false ∧ u = .int .u64 a ∧ v = .int .i64 (k : Int) ∧ 0 ≤ a ∧ a ≤ 18446744073709551615 ∧ Hid (a = dva t k) ∧ wr = W1) (fun _ _ v _ => t.size - (intOf v).toNat)
  case atStart => exact ⟨0, 0, by omega, rfl, rfl, rfl, by decide, by decide, rfl, rfl⟩
  case round =>
    obtain ⟨k, a, hk, rfl, rfl, rfl, ha0, ha1, Ha, rfl⟩ := hrel
    by_cases h3 : k = t.size
    · subst h3
      have e : r = .tuple #[.int .u64 a, .nilIface] := by rw [Hr.out, ← Ha.out, puV, if_pos ha1]
      subst e
      go_wp2_with fail
      go_ret2
      exact ⟨rfl, hg1⟩
    · have hk2 : k < t.size := by omega
      have hk3 : (k : Int) < t.size := by omega
      have hc := Hcell.out k hk2
      have hd := hD.out k hk2
      obtain ⟨c, hcc⟩ : ∃ c, bt t k = c := ⟨_, rfl⟩
      rw [hcc] at hc hd
      have Hc := Lib.hid hcc
      clear hcc
      have hd1 : 48 ≤ c := by simp [dig] at hd; exact hd.1
      have hd2 : c ≤ 57 := by simp [dig] at hd; exact hd.2
      clear hd
      have hne : (c == 95) = false := by simp; omega
      by_cases h5 : 1844674407370955162 ≤ a
      · have e : r = .tuple #[.int .u64 18446744073709551615, .iface 89 (.int .i64 1)] := by
          rw [Hr.out]; refine puV_no hD.out _ (k + 1) (by omega) ?_
          rw [dva, ← Ha.out, Hc.out]; omega
        subst e
        go_wp2_with fail
        go_ret2
        exact ⟨rfl, hg1⟩
      · have h5' : a < 1844674407370955162 := by omega
        by_cases h6 : 18446744073709551616 ≤ a * 10 + (c - 48)
        · have e : r = .tuple #[.int .u64 18446744073709551615, .iface 89 (.int .i64 1)] := by
            rw [Hr.out]; refine puV_no hD.out _ (k + 1) (by omega) ?_
            rw [dva, ← Ha.out, Hc.out]; omega
          subst e
          have h7 : IntKind.u64.wrap (a * 10 + (c - 48)) = a * 10 + (c - 48) - 18446744073709551616 := by rw [IntKind.wrap_u64]; omega
          have h8 : decide (a * 10 + (c - 48) - 18446744073709551616 < a * 10) = true := by simp; omega
          go_wp2_with fail
          go_ret2
          exact ⟨rfl, hg1⟩
        · have h7 : a * 10 + (c - 48) ≤ 18446744073709551615 := by omega
          have h8 : decide (a * 10 + (c - 48) < a * 10) = false := by simp; omega
          go_wp2_with fail
          exact ⟨⟨k + 1, a * 10 + (c - 48), by omega, rfl, rfl, rfl, by omega, by omega, (by show _ = dva t (k + 1); rw [dva, ← Ha.out, Hc.out]), trivial⟩, by simp [intOf]; omega⟩
/-- The library's variable ErrRange holds an error. -/
def Er (W : World) : Prop := ∃ tp p, W.cell? ⟨3, 0, none⟩ = some (.iface tp p)
theorem Er.lt {W : World} (h : Er W) : 3 < W.heap.size := by
  obtain ⟨tp, p, h⟩ := h
  by_cases h4 : 3 < W.heap.size
  · exact h4
  · simp [World.cell?, Array.getElem?_eq_none (Nat.le_of_not_lt h4)] at h
theorem Er.gr {S : Nat → Prop} {W W' : World} (h : Er W) (g : Gr S W W') (hs : ¬ S 3) : Er W' := by
  have hl := h.lt
  obtain ⟨tp, p, h⟩ := h
  refine ⟨tp, p, ?_⟩
  simp only [World.cell?] at h ⊢
  rw [g.block 3 hl hs]; exact h
theorem q12 (w : World) : (binOp .eql 74 (.iface 89 (.int .i64 1)) (.iface 89 (.int .i64 2))).run Tryz.prog w = .ok (.bool false) w := by kernel_rfl
theorem q11 (w : World) : (binOp .eql 74 (.iface 89 (.int .i64 1)) (.iface 89 (.int .i64 1))).run Tryz.prog w = .ok (.bool true) w := by kernel_rfl
theorem n11 (w : World) : (binOp .neq 74 (.iface 89 (.int .i64 1)) (.iface 89 (.int .i64 1))).run Tryz.prog w = .ok (.bool false) w := by kernel_rfl
theorem n1n (w : World) : (binOp .neq 74 (.iface 89 (.int .i64 1)) .nilIface).run Tryz.prog w = .ok (.bool true) w := by kernel_rfl
theorem nnn (w : World) : (binOp .neq 74 .nilIface .nilIface).run Tryz.prog w = .ok (.bool false) w := by kernel_rfl
set_option maxRecDepth 20000 in
set_option maxHeartbeats 1600000 in
theorem rangeError_c (W : World) (f t : ByteArray) (h1 : 1 ≤ t.size) (h2 : t.size ≤ 65536) (hE : Er W) :
    Calls Tryz.prog 66 #[.string f, .string t] W fun e w' => (∃ N, e = .returned (pt N)) ∧ Gr (fun _ => False) W w' := by
  have hl := hE.lt
  have hE2 := hE
  obtain ⟨tp, p, hE⟩ := hE
  have Hl := Lib.hid hl
  go_enter Tryz.func66, Tryz.ntmps66
  go_wp2_with fail
  go_region_with (first | (go_at_call 59; refine (clone0_c t _ h1 h2).mono ?_; rintro e w5 ⟨rfl, hg5⟩; have hE5 := Er.gr (W' := w5) (hE2.gr (Gr.drew W (fun _ => False)) (fun e => e)) (Gr.of_below hg5 (fun _ => False)) (fun e => e); obtain ⟨tp5, p5, hE5⟩ := hE5))
  all_goals (go_wp2_with fail; go_ret; exact ⟨⟨_, rfl⟩, ((Gr.drew W (fun _ => False)).trans (Gr.of_below hg5 _)).trans (Gr.alloc _ _ _)⟩)
set_option maxRecDepth 20000 in
set_option maxHeartbeats 1600000 in
theorem toError_c (W : World) (f t : ByteArray) (x : Int) (h1 : 1 ≤ t.size) (h2 : t.size ≤ 65536) (hE : Er W) :
    Calls Tryz.prog 55 #[.string f, .string t, .int .i64 10, .int .i64 x, .iface 89 (.int .i64 1)] W fun e w' => (∃ N, e = .returned (.iface 94 (pt N))) ∧ Gr (fun _ => False) W w' := by
  have k1 := q12
  have k2 := q11
  go_enter Tryz.func55, Tryz.ntmps55
  go_wp2_with (first | (go_at_call 66; refine (rangeError_c W f t h1 h2 hE).mono ?_; rintro e w5 ⟨⟨N, rfl⟩, hg5⟩))
  go_ret
  exact ⟨⟨N, rfl⟩, hg5⟩
/-- What the library tells of an int's digits. -/
def posV (v : Int) : Int := if v < 9223372036854775808 then v else 9223372036854775807
abbrev tup (n : Int) (x : Value) : Value := .tuple #[.int .i64 n, x]
set_option maxRecDepth 20000 in
set_option maxHeartbeats 800000 in
theorem ip_a (W : World) (t : ByteArray) (h1 : 1 ≤ t.size) (v : Int) (c : Int) (hx : ∀ w, (Instr.index 9 (.string t) (.int .i64 0)).run Tryz.prog w = .ok (.int .u8 c) w) (h01 : (c == 43) = false) (h02 : (c == 45) = false)
    (hp : ∀ W, Calls Tryz.prog 64 #[.string t, .int .i64 10, .int .i64 64] W fun e w' => e = .returned (.tuple #[.int .u64 v, .nilIface]) ∧ Gr (fun _ => False) W w') (hv0 : 0 ≤ v) (h3 : v < 9223372036854775808) :
    Calls Tryz.prog 54 #[.string t, .int .i64 10, .int .i64 64] W fun e w' => e = .returned (tup (v) (.nilIface)) ∧ Gr (fun _ => False) W w' := by
  have k1 := n1n
  have k2 := nnn
  have k4 := n11
  have hz := ne_nil h1

  go_enter Tryz.func54, Tryz.ntmps54
  go_wp2_with fail
  refine (hp _).mono ?_
  rintro e w5 ⟨rfl, hg5⟩
  go_wp2_with fail
  go_ret2
  exact ⟨rfl, hg5⟩
set_option maxRecDepth 20000 in
set_option maxHeartbeats 800000 in
theorem ip_b (W : World) (t : ByteArray) (h1 : 1 ≤ t.size) (v : Int) (c : Int) (hx : ∀ w, (Instr.index 9 (.string t) (.int .i64 0)).run Tryz.prog w = .ok (.int .u8 c) w) (h01 : (c == 43) = false) (h02 : (c == 45) = false)
    (hp : ∀ W, Calls Tryz.prog 64 #[.string t, .int .i64 10, .int .i64 64] W fun e w' => e = .returned (.tuple #[.int .u64 v, .nilIface]) ∧ Gr (fun _ => False) W w') (hv0 : 9223372036854775808 ≤ v) (h3 : v ≤ 18446744073709551615) :
    Calls Tryz.prog 54 #[.string t, .int .i64 10, .int .i64 64] W fun e w' => e = .returned (tup (9223372036854775807) (.iface 89 (.int .i64 1))) ∧ Gr (fun _ => False) W w' := by
  have k1 := n1n
  have k2 := nnn
  have k4 := n11
  have hz := ne_nil h1

  go_enter Tryz.func54, Tryz.ntmps54
  go_wp2_with fail
  refine (hp _).mono ?_
  rintro e w5 ⟨rfl, hg5⟩
  go_wp2_with fail
  go_ret2
  exact ⟨rfl, hg5⟩
set_option maxRecDepth 20000 in
set_option maxHeartbeats 800000 in
theorem ip_c (W : World) (t : ByteArray) (h1 : 1 ≤ t.size) (v : Int) (c : Int) (hx : ∀ w, (Instr.index 9 (.string t) (.int .i64 0)).run Tryz.prog w = .ok (.int .u8 c) w) (h01 : (c == 43) = false) (h02 : (c == 45) = false)
    (hp : ∀ W, Calls Tryz.prog 64 #[.string t, .int .i64 10, .int .i64 64] W fun e w' => e = .returned (.tuple #[.int .u64 v, .iface 89 (.int .i64 1)]) ∧ Gr (fun _ => False) W w') (h3 : v = 18446744073709551615) :
    Calls Tryz.prog 54 #[.string t, .int .i64 10, .int .i64 64] W fun e w' => e = .returned (tup (9223372036854775807) (.iface 89 (.int .i64 1))) ∧ Gr (fun _ => False) W w' := by
  have k1 := n1n
  have k2 := nnn
  have k4 := n11
  have hz := ne_nil h1
  subst h3
  go_enter Tryz.func54, Tryz.ntmps54
  go_wp2_with fail
  refine (hp _).mono ?_
  rintro e w5 ⟨rfl, hg5⟩
  go_wp2_with fail
  go_ret2
  exact ⟨rfl, hg5⟩
set_option maxRecDepth 20000 in
set_option maxHeartbeats 400000 in
theorem pub_ok (W : World) (t : ByteArray) (n : Int) (hp : ∀ W, Calls Tryz.prog 54 #[.string t, .int .i64 10, .int .i64 64] W fun e w' => e = .returned (tup n .nilIface) ∧ Gr (fun _ => False) W w') :
    Calls Tryz.prog 41 #[.string t, .int .i64 10, .int .i64 64] W fun e w' => (∃ x, e = .returned (tup n x)) ∧ Gr (fun _ => False) W w' := by
  have k2 := nnn
  go_enter Tryz.func41, Tryz.ntmps41
  go_wp2_with fail
  refine (hp _).mono ?_
  rintro e w5 ⟨rfl, hg5⟩
  go_wp2_with fail
  go_ret2
  exact ⟨⟨_, rfl⟩, hg5⟩
set_option maxRecDepth 20000 in
set_option maxHeartbeats 400000 in
theorem pub_no (W : World) (t : ByteArray) (h1 : 1 ≤ t.size) (h2 : t.size ≤ 65536) (hE : Er W) (n : Int) (hp : ∀ W, Calls Tryz.prog 54 #[.string t, .int .i64 10, .int .i64 64] W fun e w' => e = .returned (tup n (.iface 89 (.int .i64 1))) ∧ Gr (fun _ => False) W w') :
    Calls Tryz.prog 41 #[.string t, .int .i64 10, .int .i64 64] W fun e w' => (∃ x, e = .returned (tup n x)) ∧ Gr (fun _ => False) W w' := by
  have k1 := n1n
  go_enter Tryz.func41, Tryz.ntmps41
  go_wp2_with fail
  refine (hp _).mono ?_
  rintro e w5 ⟨rfl, hg5⟩
  have hE5 := hE.gr hg5 (fun e => e)
  go_wp2_with fail
  refine (toError_c _ _ t _ h1 h2 hE5).mono ?_
  rintro e w6 ⟨⟨N, rfl⟩, hg6⟩
  go_wp2_with fail
  go_ret2
  exact ⟨⟨_, rfl⟩, hg5.trans hg6⟩
theorem pi_pos (W : World) (t : ByteArray) (h1 : 1 ≤ t.size) (h2 : t.size ≤ 65536) (hD : ∀ k, k < t.size → dig (bt t k) = true) (hE : Er W) :
    Calls Tryz.prog 41 #[.string t, .int .i64 10, .int .i64 64] W fun e w' => (∃ x, e = .returned (tup (posV (dva t t.size)) x)) ∧ Gr (fun _ => False) W w' := by
  have hx := ix t 0 h1
  have h0 := hD 0 h1
  have hp := fun W => pu64 W t h1 h2 hD
  have hv0 := dva_nonneg hD t.size (Nat.le_refl _)
  generalize dva t t.size = v at hp hv0 ⊢
  have h01 : (bt t 0 == 43) = false := by simp [dig] at h0; simp; omega
  have h02 : (bt t 0 == 45) = false := by simp [dig] at h0; simp; omega
  by_cases h3 : v < 9223372036854775808
  · rw [show puV 18446744073709551615 v = .tuple #[.int .u64 v, .nilIface] by rw [puV, if_pos (by omega)]] at hp
    rw [show posV v = v by rw [posV, if_pos h3]]
    exact pub_ok W t v (fun W => ip_a W t h1 v _ hx h01 h02 hp hv0 h3)
  · rw [show posV v = 9223372036854775807 by rw [posV, if_neg h3]]
    by_cases h4 : v ≤ 18446744073709551615
    · rw [show puV 18446744073709551615 v = .tuple #[.int .u64 v, .nilIface] by rw [puV, if_pos h4]] at hp
      exact pub_no W t h1 (by omega) hE _ (fun W => ip_b W t h1 v _ hx h01 h02 hp (by omega) h4)
    · rw [show puV 18446744073709551615 v = .tuple #[.int .u64 18446744073709551615, .iface 89 (.int .i64 1)] by rw [puV, if_neg h4]] at hp
      exact pub_no W t h1 (by omega) hE _ (fun W => ip_c W t h1 _ _ hx h01 h02 hp rfl)
end Go.Proofs.YtggkjkkbkpnkiaaGreatDoor



