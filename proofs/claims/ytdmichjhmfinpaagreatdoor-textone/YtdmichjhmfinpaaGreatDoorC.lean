/-
  The reader's longer steps: decimal digits, a name's bytes, sixteen digits of base 16.
-/
import Derived.Test.YtdmichjhmfinpaaGreatDoorB
import Derived.Lib.Walk
import Derived.Lib.BufferWrite
import Derived.Lib.UnsafeStr
import Derived.Laws.MakeOwn
import Derived.Deep.RegionWith
set_option linter.unusedVariables false
set_option linter.unusedSimpArgs false
namespace Go.Proofs.YtdmichjhmfinpaaGreatDoor
open Go.RowKit

/-- The first place from i on whose byte is not of the kind. -/
def span (p : Int → Bool) (s : ByteArray) (i : Nat) : Nat :=
  if h : i < s.size then (if p (bt s i) = true then span p s (i + 1) else i) else i
theorem span_yes {p : Int → Bool} {s : ByteArray} {i : Nat} (h : p (pk s i) = true) (h0 : p 0 = false) : i < s.size ∧ span p s i = span p s (i + 1) := by
  have hlt : i < s.size := lt_of_pk (fun e => by rw [e, h0] at h; cases h)
  refine ⟨hlt, ?_⟩
  rw [pk, if_pos hlt] at h
  rw [span, dif_pos hlt, if_pos h]
theorem span_no {p : Int → Bool} {s : ByteArray} {i : Nat} (h : p (pk s i) = false) : span p s i = i := by
  rw [span]
  by_cases hlt : i < s.size
  · rw [pk, if_pos hlt] at h; rw [dif_pos hlt, if_neg (by rw [h]; decide)]
  · rw [dif_neg hlt]
theorem span_ge (p : Int → Bool) (s : ByteArray) (i : Nat) : i ≤ span p s i := by
  fun_induction span p s i <;> omega
theorem span_le {p : Int → Bool} {s : ByteArray} {i : Nat} (hi : i ≤ s.size) : span p s i ≤ s.size := by
  fun_induction span p s i <;> omega

/-- The place of a reader. -/
def atOf (w : World) (b : Nat) : Nat := match w.cell? ⟨b, 1, none⟩ with | some (.int _ z) => z.toNat | _ => 0
theorem Rd.atOf {W : World} {b : Nat} {s : ByteArray} {i n : Nat} (h : Rd W b s i n) : atOf W b = i := by
  obtain ⟨c0, c1, c2, f0, f1, f2⟩ := h.facts
  simp [YtdmichjhmfinpaaGreatDoor.atOf, c1]

theorem sl (s : ByteArray) (a c : Nat) (h1 : a ≤ c) (h2 : c ≤ s.size) (w : World) : (Instr.slice 9 (.string s) (some (.int .i64 (a : Int))) (some (.int .i64 (c : Int))) none).run Tryz.prog w = .ok (.string (s.extract a c)) w := by
  have k1 : (a : Int) ≤ c := by omega
  have k2 : (c : Int) ≤ s.size := by omega
  simp [Instr.slice, run_underlying Tryz.underlying9, Instr.sliceBounds, run_sliceBound, k1, k2, h1, h2]

theorem ext1 (s : ByteArray) (i : Nat) (h : pk s i = 48) : s.extract i (i + 1) = ⟨#[48]⟩ := by
  have hlt : i < s.size := lt_of_pk (by rw [h]; decide)
  have h2 : i < s.data.size := hlt
  rw [pk, if_pos hlt, bt, Array.getElem?_eq_getElem h2, Option.getD_some] at h
  have h3 : s.data[i] = 48 := UInt8.toNat_inj.1 (by have : s.data[i].toNat = 48 := by omega
                                                    rw [this]; rfl)
  apply ByteArray.ext
  apply Array.ext
  · rw [ByteArray.data_extract, Array.size_extract]; simp; omega
  · intro k hk1 hk2
    have hk : k = 0 := by simp at hk2; omega
    subst hk
    simp [ByteArray.data_extract, h3]

/-- Where decimal digits end, or the place of what is wrong. -/
def dgs (s : ByteArray) (i : Nat) : Except Nat Nat :=
  if dig (pk s i) = false then .error i else if pk s i = 48 then .ok (i + 1) else if i + 20 < span dig s i then .error (i + 20) else .ok (span dig s i)

/-- How a step ends that reads a text. -/
def EndS (W : World) (b : Nat) (s : ByteArray) (i n : Nat) (e : Ending) (w' : World) : Except Nat Nat → Prop
  | .ok j => e = .returned (.string (s.extract i j)) ∧ St W b s w' j n
  | .error j => e = gives j 41 ∧ Gr (fun k => k = b) W w'

set_option maxRecDepth 20000 in
set_option maxHeartbeats 1600000 in
theorem digits_c (W : World) (b : Nat) (s : ByteArray) (i n : Nat) (h : Rd W b s i n) (hs : s.size ≤ 65536) (hi : i ≤ s.size) :
    Calls Tryz.prog 112 #[pt b] W fun e w' => EndS W b s i n e w' (dgs s i) := by
  have hi2 : (i : Int) ≤ 65536 := by omega
  obtain ⟨c0, c1, c2, f0, f1, f2⟩ := h.facts
  obtain ⟨c, hc⟩ : ∃ c, pk s i = c := ⟨_, rfl⟩
  have Hc := Lib.hid hc
  have hp := fun W h => peek_c W b s i n h hi
  rw [hc] at hp
  by_cases h1 : dig c = false
  · rw [show dgs s i = .error i by simp [dgs, hc, h1]]
    clear hc
    go_enter Tryz.func112, Tryz.ntmps112
    go_wp2_with fail
    refine (hp _ h).mono ?_
    rintro e w1 ⟨rfl, hs1⟩
    go_wp2_with (first | (go_at_call 91; refine (digit_c _ _).mono ?_; rintro e w2 ⟨rfl, rfl⟩) | (go_at_call 89; refine (misplaced_c _ b s i n hs1.1).mono ?_; rintro e w4 ⟨rfl, hs4⟩))
    exact ⟨rfl, rfl, hs1.2.trans hs4.2⟩
  have h1' : dig c = true := by simpa using h1
  clear h1
  by_cases h2 : c = 48
  · have hlt : i < s.size := lt_of_pk (by rw [hc, h2]; decide)
    rw [show dgs s i = .ok (i + 1) by subst h2; simp [dgs, hc, h1']]
    have hext : Hid (s.extract i (i + 1) = ⟨#[48]⟩) := ext1 s i (by rw [hc, h2])
    clear hc
    subst h2
    go_enter Tryz.func112, Tryz.ntmps112
    go_wp2_with fail
    refine (hp _ h).mono ?_
    rintro e w1 ⟨rfl, hs1⟩
    go_wp2_with (first | (go_at_call 91; refine (digit_c _ _).mono ?_; rintro e w2 ⟨rfl, rfl⟩))
    refine (hp _ hs1.1).mono ?_
    rintro e w2 ⟨rfl, hs2⟩
    obtain ⟨k0, k1, k2, l0, l1, l2⟩ := hs2.1.facts
    go_wp2_with fail
    go_ret
    refine ⟨?_, hs2.1.setAt (i + 1), (hs1.2.trans hs2.2).trans (Gr.set _ _ _ rfl)⟩
    rw [hext.out]; rfl
  have h2' : (c == 48) = false := by simpa using h2
  have hlt : i < s.size := lt_of_pk (by rw [hc]; intro e; rw [e] at h1'; exact absurd h1' (by decide))
  obtain ⟨r, hr⟩ : ∃ r, r = dgs s i := ⟨_, rfl⟩
  have hr2 : r = if i + 20 < span dig s i then .error (i + 20) else .ok (span dig s i) := by rw [hr]; simp [dgs, hc, h1', h2]
  rw [← hr]
  have Hr : Hid (r = if i + 20 < span dig s i then .error (i + 20) else .ok (span dig s i)) := hr2
  clear hr hr2 hc h2
  go_enter Tryz.func112, Tryz.ntmps112
  go_wp2_with fail
  refine (hp _ h).mono ?_
  rintro e w1 ⟨rfl, hs1⟩
  go_wp2_with (first | (go_at_call 91; refine (digit_c _ _).mono ?_; rintro e w2 ⟨rfl, rfl⟩))
  refine (hp _ hs1.1).mono ?_
  rintro e w2 ⟨rfl, hs2⟩
  have hs2' := hs1.trans hs2
  go_wp2_with fail
  go_loopw [27] (fun _ wr => ∃ k : Nat, k ≤ 20 ∧ i + k ≤ s.size ∧ span dig s i = span dig s (i + k) ∧ St W b s wr (i + k) n) (fun _ wr => s.size - atOf wr b)
  case atStart => exact ⟨0, by omega, by omega, rfl, hs2'⟩
  case round =>
    obtain ⟨k, hk, hik, hsp, hst⟩ := hrel
    have hat := hst.1.atOf
    have Hat := Lib.hid hat
    have Hsp := Lib.hid hsp
    clear hsp hat c0 c1 c2 f0 f1 f2
    have hp2 := fun W h => peek_c W b s (i + k) n h (by omega)
    obtain ⟨x, hx⟩ : ∃ x, pk s (i + k) = x := ⟨_, rfl⟩
    rw [hx] at hp2
    have Hx := Lib.hid hx
    clear hx
    by_cases h3 : dig x = false
    · go_wp2_with fail
      refine (hp2 _ hst.1).mono ?_
      rintro e w3 ⟨rfl, hs3⟩
      obtain ⟨k0, k1, k2, l0, l1, l2⟩ := hs3.1.facts
      have hsl := sl s i (i + k) (by omega) hik
      go_wp2_with (first | (go_at_call 91; refine (digit_c _ _).mono ?_; rintro e w4 ⟨rfl, rfl⟩))
      go_quiet (fail)
      go_wp2_with fail
      go_ret
      have he : span dig s i = i + k := by rw [Hsp.out]; exact span_no (by rw [Hx.out]; exact h3)
      rw [Hr.out, if_neg (by omega), he]
      exact ⟨rfl, hs3.1, hst.2.trans (hs3.2.trans (Gr.drewN _ _ _))⟩
    · have h3' : dig x = true := by simpa using h3
      clear h3
      have hlt3 := (span_yes (p := dig) (s := s) (i := i + k) (by rw [Hx.out]; exact h3') rfl).1
      have hsp3 : Hid (span dig s (i + k) = span dig s (i + k + 1)) := (span_yes (p := dig) (s := s) (i := i + k) (by rw [Hx.out]; exact h3') rfl).2
      by_cases h4 : k = 20
      · subst h4
        go_wp2_with fail
        refine (hp2 _ hst.1).mono ?_
        rintro e w3 ⟨rfl, hs3⟩
        obtain ⟨k0, k1, k2, l0, l1, l2⟩ := hs3.1.facts
        go_wp2_with (first | (go_at_call 91; refine (digit_c _ _).mono ?_; rintro e w4 ⟨rfl, rfl⟩) | (go_at_call 89; refine (misplaced_c _ b s (i + 20) n hs3.1).mono ?_; rintro e w4 ⟨rfl, hs4⟩))
        have he : i + 20 < span dig s i := by
          rw [Hsp.out, hsp3.out]; exact span_ge dig s (i + 20 + 1)
        rw [Hr.out, if_pos he]
        exact ⟨rfl, rfl, (hst.2.trans hs3.2).trans hs4.2⟩
      · have h4' : ((i + k : Int) - i == 20) = false := by simp; omega
        have h4'' : (((i + k : Nat) : Int) - i == 20) = false := by simp; omega
        have h5 : ((i + k : Nat) : Int) < 65536 := by omega
        go_wp2_with fail
        refine (hp2 _ hst.1).mono ?_
        rintro e w3 ⟨rfl, hs3⟩
        obtain ⟨k0, k1, k2, l0, l1, l2⟩ := hs3.1.facts
        go_wp2_with (first | (go_at_call 91; refine (digit_c _ _).mono ?_; rintro e w4 ⟨rfl, rfl⟩))
        have h7 : Rd (w3.setCell ⟨b, 1, none⟩ (.int .i64 ((i : Int) + k + 1))) b s (i + (k + 1)) n := hs3.1.setAt (i + (k + 1))
        exact ⟨⟨k + 1, by omega, by omega, by rw [Hsp.out]; exact hsp3.out, h7, (hst.2.trans hs3.2).trans (Gr.set _ _ _ rfl)⟩, by rw [h7.atOf, Hat.out]; omega⟩

/-! ### A copy of a text -/
theorem info5 : (Tryz.prog.info? 5).map (fun i => (i.zero, i.size, i.bytes)) = some (some (.int .u8 0), 1, 1) := by kernel_rfl
set_option maxHeartbeats 4000000 in
set_option maxRecDepth 100000 in
theorem clone0_c (s : ByteArray) (w : World) (h1 : 1 ≤ s.size) (h2 : s.size ≤ 65536) :
    Calls Tryz.prog 132 #[.string s] w fun e w' => e = .returned (.string s) ∧ Below w.heap.size w w' := by
  obtain ⟨i0, hi, hz0, hz1, hz2⟩ := info_parts info5
  have hinfo : (Tryz.prog.info? 5).map (·.size) = some 1 := by rw [hi]; simp [hz1]
  have hco : Tryz.prog.cellsOf 5 = 1 := by simp [Program.cellsOf, hi, hz1]
  have h0 : ((s.size : Int) == 0) = false := beq_eq_false_iff_ne.2 (by omega)
  obtain ⟨M, hM⟩ : ∃ M, M = madeCells (Value.int .u8 0).cells (((s.size : Nat) : Int).toNat * i0.size) := ⟨_, rfl⟩
  have hMs : M.size = s.size := by rw [hM, size_madeCells, hz1]; simp
  have hmk : ∀ W : World, (Instr.makeSlice 28 (.int .i64 (s.size : Int)) (.int .i64 (s.size : Int))).run Tryz.prog W = .ok (.slice (some ⟨W.heap.size, 0, none⟩) s.size s.size) (W.alloc (.cells M 5)) := fun W => by
    have h := run_make (P := Tryz.prog) W 28 5 i0 (.int .u8 0) Tryz.underlying28 hi hz0 .i64 .i64 (s.size : Int) (s.size : Int) (by omega) (by omega) (by rw [hz2]; omega) (by omega)
    rw [← hM] at h
    simpa using h
  clear hM
  have hcp := Lib.run_copy_row_string (P := Tryz.prog) (w.alloc (.cells M 5)) 28 9 3 5 w.heap.size 0 s.size s.size s M 5 Tryz.underlying28 hinfo (heap_alloc_new w _) (Nat.le_refl _) (by omega)
  obtain ⟨Y, hY⟩ : ∃ Y, Y = (M.toList.take 0 ++ Lib.byteCells s.data.toList ++ M.toList.drop (0 + s.size)).toArray := ⟨_, rfl⟩
  rw [← hY] at hcp
  have hYl : Y.toList = Lib.byteCells s.data.toList := by
    rw [hY, List.toList_toArray, List.take_zero, List.nil_append, List.drop_of_length_le (by rw [Array.length_toList]; omega), List.append_nil]
  have hYs : Y.size = s.size := by rw [← Array.length_toList, hYl, Lib.byteCells_length, ← Lib.size_eq]
  have hgY : ((w.alloc (.cells M 5)).setRow w.heap.size Y).heap[w.heap.size]? = some (.cells Y 5 (0, 0)) := setRow_heap _ _ M _ 5 (0, 0) (heap_alloc_new w _)
  have hne : s.data.toList ≠ [] := by
    intro e
    have h3 : s.size = s.data.toList.length := Lib.size_eq s
    rw [e] at h3
    have h4 : s.size = 0 := h3
    omega
  have hUS := Lib.run_unsafeString_row (P := Tryz.prog) ((w.alloc (.cells M 5)).setRow w.heap.size Y) 157 3 9 5 Tryz.underlying157 hco w.heap.size Y.size (by unfold World.shape?; rw [hgY]) s.data.toList hne (by rw [← Lib.size_eq]; omega) (by rw [← Lib.size_eq]; omega)
    (fun j x hx => Lib.cells_of_row hgY Y.size j _ (by rw [List.take_of_length_le (by rw [Array.length_toList]; exact Nat.le_refl _), hYl]; simp [Lib.byteCells, hx]))
  rw [← Lib.size_eq] at hUS
  clear hY
  go_enter Tryz.func132, Tryz.ntmps132
  go_wp2
  go_ret
  have hb1 : Below w.heap.size w (w.alloc (.cells M 5)) := (Below.refl _ w).alloc (Nat.le_refl _) _
  have hb2 : Below w.heap.size (w.alloc (.cells M 5)) ((w.alloc (.cells M 5)).setRow w.heap.size Y) := ⟨rfl, rfl, rfl, by simp, fun k hk => setRow_other _ _ _ _ (by omega)⟩
  exact ⟨rfl, Lib.below_freeze (hb1.trans hb2) (p := ⟨w.heap.size, 0, none⟩) (Nat.le_refl _) _⟩
theorem clone_c (s : ByteArray) (w : World) (h1 : 1 ≤ s.size) (h2 : s.size ≤ 65536) :
    Calls Tryz.prog 115 #[.string s] w fun e w' => e = .returned (.string s) ∧ Gr (fun _ => False) w w' := by
  go_enter Tryz.func115, Tryz.ntmps115
  go_wp2_with (first | (go_at_call 132; refine (clone0_c s _ h1 h2).mono ?_; rintro e w' ⟨rfl, hb⟩))
  go_ret
  exact ⟨rfl, Gr.of_below hb _⟩

set_option maxRecDepth 20000 in
set_option maxHeartbeats 1600000 in
theorem name_c (W : World) (b : Nat) (s : ByteArray) (i n : Nat) (h : Rd W b s i n) (hs : s.size ≤ 65536) (hi : i ≤ s.size) (hlo : inN (pk s i) = true) :
    Calls Tryz.prog 94 #[pt b] W fun e w' => e = .returned (.string (s.extract i (span inN s i))) ∧ St W b s w' (span inN s i) n := by
  have hi2 : (i : Int) ≤ 65536 := by omega
  obtain ⟨c0, c1, c2, f0, f1, f2⟩ := h.facts
  have hj1 : Hid (i + 1 ≤ span inN s i) := by
    have h1 := span_yes (p := inN) hlo rfl
    rw [h1.2]; exact span_ge inN s (i + 1)
  have hj2 : Hid (span inN s i ≤ s.size) := span_le hi
  clear hlo
  obtain ⟨j, hj⟩ : ∃ j, span inN s i = j := ⟨_, rfl⟩
  rw [hj] at hj1 hj2 ⊢
  have Hj := Lib.hid hj
  clear hj
  go_enter Tryz.func94, Tryz.ntmps94
  go_wp2_with fail
  go_loopw [10] (fun _ wr => ∃ k : Nat, i + k ≤ s.size ∧ j = span inN s (i + k) ∧ St W b s wr (i + k) n) (fun _ wr => s.size - atOf wr b)
  case atStart => exact ⟨0, by omega, Hj.out.symm, h, Gr.refl _ _⟩
  case round =>
    obtain ⟨k, hik, hsp, hst⟩ := hrel
    have Hat := Lib.hid hst.1.atOf
    have Hsp := Lib.hid hsp
    clear hsp c0 c1 c2 f0 f1 f2
    have hp2 := fun W h => peek_c W b s (i + k) n h (by omega)
    obtain ⟨x, hx⟩ : ∃ x, pk s (i + k) = x := ⟨_, rfl⟩
    rw [hx] at hp2
    have Hx := Lib.hid hx
    clear hx
    by_cases h3 : inN x = false
    · have he : j = i + k := by rw [Hsp.out]; exact span_no (by rw [Hx.out]; exact h3)
      subst he
      go_wp2_with fail
      refine (hp2 _ hst.1).mono ?_
      rintro e w3 ⟨rfl, hs3⟩
      obtain ⟨k0, k1, k2, l0, l1, l2⟩ := hs3.1.facts
      have hsl := sl s i (i + k) (by omega) hik
      have hes : (s.extract i (i + k)).size = k := by rw [ByteArray.size_extract]; omega
      go_wp2_with (first | (go_at_call 114; refine (inName_c _ _).mono ?_; rintro e w4 ⟨rfl, rfl⟩))
      have hcl := fun w => clone_c (s.extract i (i + k)) w (by rw [hes]; have := hj1.out; omega) (by rw [hes]; omega)
      clear hes
      go_region_with (first | (go_at_call 115; refine (hcl _).mono ?_; rintro e w5 ⟨rfl, hg5⟩))
      all_goals (go_wp2_with fail; go_ret; exact ⟨rfl, hs3.1.gr ((Gr.drew w3 (fun _ => False)).trans hg5) (fun e => e), hst.2.trans (hs3.2.trans (((Gr.drew w3 (fun _ => False)).trans hg5).mono (fun _ _ e => e.elim)))⟩)
    · have h3' : inN x = true := by simpa using h3
      clear h3
      have hlt3 := (span_yes (p := inN) (s := s) (i := i + k) (by rw [Hx.out]; exact h3') rfl).1
      have hsp3 : Hid (span inN s (i + k) = span inN s (i + k + 1)) := (span_yes (p := inN) (s := s) (i := i + k) (by rw [Hx.out]; exact h3') rfl).2
      have h5 : ((i + k : Nat) : Int) < 65536 := by omega
      go_wp2_with fail
      refine (hp2 _ hst.1).mono ?_
      rintro e w3 ⟨rfl, hs3⟩
      obtain ⟨k0, k1, k2, l0, l1, l2⟩ := hs3.1.facts
      go_wp2_with (first | (go_at_call 114; refine (inName_c _ _).mono ?_; rintro e w4 ⟨rfl, rfl⟩))
      have h7 : Rd (w3.setCell ⟨b, 1, none⟩ (.int .i64 ((i : Int) + k + 1))) b s (i + (k + 1)) n := hs3.1.setAt (i + (k + 1))
      exact ⟨⟨k + 1, by omega, by rw [Hsp.out]; exact hsp3.out, h7, (hst.2.trans hs3.2).trans (Gr.set _ _ _ rfl)⟩, by rw [h7.atOf, Hat.out]; omega⟩
end Go.Proofs.YtdmichjhmfinpaaGreatDoor
/-
  The reader's complex numbers: twice sixteen digits of base 16.
-/
namespace Go.Proofs.YtdmichjhmfinpaaGreatDoor
open Go.RowKit

/-- So many digits of base 16 from i on, behind a number. -/
def hexs (s : ByteArray) : Nat → Nat → Int → Except Nat (Int × Nat)
  | 0, i, a => .ok (a, i)
  | k + 1, i, a => if hexv (pk s i) < 0 then .error i else hexs s k (i + 1) (a * 16 + hexv (pk s i))

theorem or16 (a v : Int) (h0 : 0 ≤ a) (h1 : a < 1152921504606846976) (k0 : 0 ≤ v) (k1 : v < 16) : bits .or .u64 (a * 16) v = a * 16 + v := by
  obtain ⟨m, rfl⟩ : ∃ m : Nat, a = m := ⟨a.toNat, by omega⟩
  obtain ⟨x, rfl⟩ : ∃ x : Nat, v = x := ⟨v.toNat, by omega⟩
  have hm : m < 1152921504606846976 := by omega
  have hx : x < 2 ^ 4 := by omega
  have e : 2 ^ 4 * m + x = 2 ^ 4 * m ||| x := Nat.two_pow_add_eq_or_of_lt hx m
  have e1 : (BitVec.ofInt 64 ((m : Int) * 16) ||| BitVec.ofInt 64 (x : Int)).toNat = m * 16 + x := by
    have : ((m : Int) * 16) = ((m * 16 : Nat) : Int) := by omega
    rw [this, BitVec.ofInt_natCast, BitVec.ofInt_natCast, BitVec.toNat_or, BitVec.toNat_ofNat, BitVec.toNat_ofNat, Nat.mod_eq_of_lt (by omega), Nat.mod_eq_of_lt (by omega), Nat.mul_comm m 16]
    rw [show (16 : Nat) * m = 2 ^ 4 * m from rfl, ← e]
  show IntKind.u64.wrap ((BitVec.ofInt 64 ((m : Int) * 16) ||| BitVec.ofInt 64 (x : Int)).toNat : Int) = _
  rw [e1, IntKind.wrap_u64]
  omega

@[go_sem] theorem cf96 (x : Int) (w : World) : (callFunc 96 #[.int .u64 x]).run Tryz.prog w = .ok (Next.value (.float .f64 x.toNat)) w := by
  rw [run_callFunc_extern (e := Extern.MathFloatBits.float64frombits) Tryz.func96 (by kernel_rfl) (by kernel_rfl) (by kernel_rfl) (by kernel_rfl)]
  rfl

/-- How a step ends that reads sixteen digits. -/
def EndF (W : World) (b : Nat) (s : ByteArray) (n : Nat) (e : Ending) (w' : World) : Except Nat (Int × Nat) → Prop
  | .ok (a, j) => e = .returned (.float .f64 a.toNat) ∧ St W b s w' j n
  | .error j => e = gives j 41 ∧ Gr (fun k => k = b) W w'

def p16 (m : Nat) : Int := ((16 ^ m : Nat) : Int)
theorem p16_le (m : Nat) (h : m < 16) : p16 m ≤ 1152921504606846976 := by
  have : 16 ^ m ≤ 16 ^ 15 := Nat.pow_le_pow_right (by decide) (by omega)
  unfold p16; omega
theorem p16_succ (m : Nat) : p16 (m + 1) = p16 m * 16 := by unfold p16; rw [Nat.pow_succ]; omega

set_option maxRecDepth 20000 in
set_option maxHeartbeats 1600000 in
theorem bits_c (W : World) (b : Nat) (s : ByteArray) (i n : Nat) (h : Rd W b s i n) (hs : s.size ≤ 65536) (hi : i ≤ s.size) :
    Calls Tryz.prog 133 #[pt b] W fun e w' => EndF W b s n e w' (hexs s 16 i 0) := by
  have hi2 : (i : Int) ≤ 65536 := by omega
  obtain ⟨r, hr⟩ : ∃ r, hexs s 16 i 0 = r := ⟨_, rfl⟩
  rw [hr]
  have Hr := Lib.hid hr
  clear hr
  go_enter Tryz.func133, Tryz.ntmps133
  go_wp2_with fail
  go_loopw [3, 4] (fun u v wr => ∃ (k : Nat) (a : Int), k ≤ 16 ∧ i + k ≤ s.size ∧ u = .int .u64 a ∧ v = .int .i64 (k : Int) ∧ 0 ≤ a ∧ Hid (a < p16 k) ∧ Hid (r = hexs s (16 - k) (i + k) a) ∧ St W b s wr (i + k) n) (fun _ v _ => 16 - (intOf v).toNat)
  case atStart => exact ⟨0, 0, by omega, by omega, rfl, rfl, by decide, (by show (0 : Int) < p16 0; decide), Hr.out.symm, h, Gr.refl _ _⟩
  case round =>
    obtain ⟨k, a, hk, hik, rfl, rfl, ha, Ha, Hsp, hst⟩ := hrel
    by_cases h3 : k = 16
    · subst h3
      have e : r = .ok (a, i + 16) := Hsp.out
      subst e
      go_wp2_with fail
      go_ret
      exact ⟨rfl, hst⟩
    · have hk2 : (k : Int) < 16 := by omega
      have ha2 : a < 1152921504606846976 := by have := p16_le k (by omega); have := Ha.out; omega
      by_cases h4 : hexv (pk s (i + k)) < 0
      · have e : r = .error (i + k) := by rw [Hsp.out, show 16 - k = (15 - k) + 1 by omega, hexs, if_pos h4]
        subst e
        go_wp2_with (first | (go_at_call 142; refine (digit16_no _ b s (i + k) n hst.1 hik h4).mono ?_; rintro e w3 ⟨rfl, hg3⟩))
        exact ⟨rfl, rfl, hst.2.trans hg3⟩
      · have h4' : 0 ≤ hexv (pk s (i + k)) := by omega
        have hlt := lt_of_hexv h4'
        have hx2 := hexv_lt (pk s (i + k))
        have Hs2 : Hid (r = hexs s (16 - (k + 1)) (i + (k + 1)) (a * 16 + hexv (pk s (i + k)))) := by
          have : r = hexs s (15 - k) (i + k + 1) (a * 16 + hexv (pk s (i + k))) := by rw [Hsp.out, show 16 - k = (15 - k) + 1 by omega, hexs, if_neg h4]
          rw [show 16 - (k + 1) = 15 - k by omega]; exact this
        obtain ⟨x, hx⟩ : ∃ x, hexv (pk s (i + k)) = x := ⟨_, rfl⟩
        rw [hx] at h4 h4' hx2 Hs2
        have hd2 := fun W h => digit16_ok W b s (i + k) n h hik x hx h4'
        clear hx
        have e3 := or16 a x ha ha2 h4' hx2
        have h5 : ((i + k : Nat) : Int) < 65536 := by omega
        go_wp2_with fail
        refine (hd2 _ hst.1).mono ?_
        rintro e w3 ⟨rfl, hs3⟩
        obtain ⟨k0, k1, k2, l0, l1, l2⟩ := hs3.1.facts
        go_wp2_with fail
        have h7 : Rd (w3.setCell ⟨b, 1, none⟩ (.int .i64 ((i : Int) + k + 1))) b s (i + (k + 1)) n := hs3.1.setAt (i + (k + 1))
        refine ⟨⟨k + 1, a * 16 + x, by omega, by omega, rfl, rfl, by omega, ?_, Hs2, h7, (hst.2.trans hs3.2).trans (Gr.set _ _ _ rfl)⟩, by simp [intOf]; omega⟩
        have := Ha.out
        show a * 16 + x < p16 (k + 1)
        rw [p16_succ]; omega

/-- The two parts of a complex number. -/
def cxs (s : ByteArray) (i : Nat) : Except Nat (Int × Int × Nat) :=
  match hexs s 16 i 0 with
  | .error j => .error j
  | .ok (p, j) => match hexs s 16 j 0 with
    | .error k => .error k
    | .ok (q, k) => .ok (p, q, k)
def EndC (W : World) (b : Nat) (s : ByteArray) (n : Nat) (e : Ending) (w' : World) : Except Nat (Int × Int × Nat) → Prop
  | .ok (p, q, j) => e = .returned (.complex .f64 p.toNat q.toNat) ∧ St W b s w' j n
  | .error j => e = gives j 41 ∧ Gr (fun k => k = b) W w'
theorem hexs_le {s : ByteArray} : ∀ (k i : Nat) (a : Int) (x : Int) (j : Nat), i ≤ s.size → hexs s k i a = .ok (x, j) → j ≤ s.size
  | 0, i, a, x, j, hi, h => by simp [hexs] at h; omega
  | k + 1, i, a, x, j, hi, h => by
    rw [hexs] at h
    by_cases h4 : hexv (pk s i) < 0
    · rw [if_pos h4] at h; cases h
    · rw [if_neg h4] at h
      exact hexs_le k (i + 1) _ x j (lt_of_hexv (by omega)) h

set_option maxRecDepth 20000 in
set_option maxHeartbeats 1600000 in
theorem cx_c (W : World) (b : Nat) (s : ByteArray) (i n : Nat) (h : Rd W b s i n) (hs : s.size ≤ 65536) (hi : i ≤ s.size) :
    Calls Tryz.prog 116 #[pt b] W fun e w' => EndC W b s n e w' (cxs s i) := by
  have hc1 := fun W h => bits_c W b s i n h hs hi
  have hle := hexs_le (s := s) 16 i 0
  unfold cxs
  generalize hexs s 16 i 0 = r at hc1 hle ⊢
  rcases r with j | ⟨p, j⟩
  · simp only [EndF, EndC] at hc1 ⊢
    go_enter Tryz.func116, Tryz.ntmps116
    go_wp2_with fail
    refine (hc1 _ h).mono ?_
    rintro e w3 ⟨rfl, hg3⟩
    exact ⟨rfl, rfl, hg3⟩
  · have hj : j ≤ s.size := hle p j hi rfl
    clear hle
    have hc2 := fun W h => bits_c W b s j n h hs hj
    simp only []
    generalize hexs s 16 j 0 = r at hc2 ⊢
    rcases r with k | ⟨q, k⟩
    · simp only [EndF, EndC] at hc1 hc2 ⊢
      go_enter Tryz.func116, Tryz.ntmps116
      go_wp2_with fail
      refine (hc1 _ h).mono ?_
      rintro e w3 ⟨rfl, hs3⟩
      go_wp2_with fail
      refine (hc2 _ hs3.1).mono ?_
      rintro e w4 ⟨rfl, hg4⟩
      exact ⟨rfl, rfl, hs3.2.trans hg4⟩
    · simp only [EndF, EndC] at hc1 hc2 ⊢
      go_enter Tryz.func116, Tryz.ntmps116
      go_wp2_with fail
      refine (hc1 _ h).mono ?_
      rintro e w3 ⟨rfl, hs3⟩
      go_wp2_with fail
      refine (hc2 _ hs3.1).mono ?_
      rintro e w4 ⟨rfl, hs4⟩
      go_wp2_with fail
      go_ret
      exact ⟨rfl, hs3.trans hs4⟩
end Go.Proofs.YtdmichjhmfinpaaGreatDoor
