/-
  Calls of the checks at the examples' instructions.
-/
import Derived.Test.YtgdadjmeeblfoaaDoorCB
set_option linter.unusedVariables false
set_option linter.unusedSimpArgs false
namespace Go.Proofs.YtgdadjmeeblfoaaDoor
open Go.RowKit Go.Maps
variable {W W' : World}
def zlow (c : Int) : Bool := decide (97 ≤ c) && decide (c ≤ 122)
def zoth (c : Int) : Bool := (decide (65 ≤ c) && decide (c ≤ 90)) || (decide (48 ≤ c) && decide (c ≤ 57)) || (c == 95)
def zinNa (c : Int) : Bool := zlow c || zoth c
def zallN (s : ByteArray) (k : Nat) : Bool := (List.range k).all fun j => zinNa (bt s j)
def zisName (s : ByteArray) : Bool := decide (1 ≤ s.size) && decide (s.size ≤ 32) && zlow (bt s 0) && zallN s s.size
theorem zallN_succ (s : ByteArray) (k : Nat) : zallN s (k + 1) = (zallN s k && zinNa (bt s k)) := by
  simp [zallN, List.range_succ]
theorem zallN_false (s : ByteArray) (k n : Nat) (hk : k < n) (h : zinNa (bt s k) = false) : zallN s n = false := by
  unfold zallN
  rw [Bool.eq_false_iff]
  intro ha
  rw [List.all_eq_true] at ha
  have := ha k (List.mem_range.2 hk)
  rw [h] at this; cases this
theorem zalower_c (c : Int) (w : World) : Calls Tryd.prog 26 #[.int .u8 c] w fun e w' => e = .returned (.bool (zlow c)) ∧ w = w' := by
  by_cases h1 : 97 ≤ c <;> by_cases h2 : c ≤ 122 <;> simp only [zlow, h1, h2, decide_true, decide_false, Bool.and_true, Bool.and_false, Bool.false_and, Bool.true_and]
  all_goals (go_enter Tryd.func26, Tryd.ntmps26; go_wp2; go_ret; exact ⟨rfl, rfl⟩)
set_option maxHeartbeats 800000 in
theorem zainName_c (c : Int) (w : World) : Calls Tryd.prog 27 #[.int .u8 c] w fun e w' => e = .returned (.bool (zinNa c)) ∧ w = w' := by
  go_enter Tryd.func27, Tryd.ntmps27
  go_wp2_with (first | (go_at_call 26; refine (zalower_c _ _).mono ?_; rintro e w' ⟨rfl, rfl⟩))
  all_goals (go_ret; refine ⟨congrArg (fun b => Ending.returned (Value.bool b)) ?_, rfl⟩; rw [Bool.eq_iff_iff]; simp [zinNa, zoth, zlow] at *; try omega)

set_option maxHeartbeats 1600000 in
theorem zaright_c (s : ByteArray) (w : World) : Calls Tryd.prog 20 #[.string s] w fun e w' => e = .returned (.bool (zisName s)) ∧ w = w' := by
  by_cases h1 : 1 ≤ s.size
  · by_cases h2 : s.size ≤ 32
    · have h0 := ixa0 s h1
      by_cases h3 : zlow (bt s 0) = true
      · go_enter Tryd.func20, Tryd.ntmps20
        go_wp2_with (first | (go_at_call 26; refine (zalower_c _ _).mono ?_; rintro e w' ⟨rfl, rfl⟩))
        go_loop [20] (fun i => ∃ k : Nat, k ≤ s.size ∧ i = .int .i64 k ∧ zallN s k = true) (fun i => s.size - (intOf i).toNat)
        case atStart => exact ⟨0, Nat.zero_le _, rfl, rfl⟩
        case round =>
          obtain ⟨k, hk, rfl, ha⟩ := hrel
          clear h0
          by_cases hlt : k < s.size
          · have hk0 := ixa s k hlt
            go_wp2_with (first | (go_at_call 27; refine (zainName_c _ _).mono ?_; rintro e w' ⟨rfl, rfl⟩))
            · have hf : zinNa (bt s k) = false := by simpa using (by assumption : (!zinNa (bt s k)) = true)
              go_ret
              have : zisName s = false := by simp [zisName, zallN_false s k s.size hlt hf]
              exact ⟨by rw [this]; rfl, rfl⟩
            · have hf : zinNa (bt s k) = true := by simpa using (by assumption : (!zinNa (bt s k)) = false)
              go_round
              case rel => exact ⟨k + 1, by omega, by go_num, by rw [zallN_succ, ha, hf]; rfl⟩
              case measure => simp [intOf]; omega
          · have : k = s.size := by omega
            subst this
            go_wp2
            go_ret
            have : zisName s = true := by simp [zisName, ha, h1, h2, h3]
            exact ⟨by rw [this]; rfl, rfl⟩
      · have hn : zisName s = false := by simp [zisName, h3]
        rw [hn]
        go_enter Tryd.func20, Tryd.ntmps20
        go_wp2_with (first | (go_at_call 26; refine (zalower_c _ _).mono ?_; rintro e w' ⟨rfl, rfl⟩))
        go_ret
        exact ⟨rfl, rfl⟩
    · have hn : zisName s = false := by simp [zisName, h2]
      rw [hn]
      go_enter Tryd.func20, Tryd.ntmps20
      go_wp2
      go_ret
      exact ⟨rfl, rfl⟩
  · have hn : zisName s = false := by simp [zisName, h1]
    rw [hn]
    go_enter Tryd.func20, Tryd.ntmps20
    go_wp2
    go_ret
    exact ⟨rfl, rfl⟩


theorem cell_gr {S : Nat → Prop} {b o : Nat} {v : Value} (h : W.cell? ⟨b, o, none⟩ = some v) (g : Gr S W W') (hs : ¬ S b) : W'.cell? ⟨b, o, none⟩ = some v := by
  have hl := World.block_lt_of_cell? _ _ h
  simp only [World.cell?] at h ⊢
  rw [g.block b hl hs]; exact h
abbrev nlv : Value := .slice none 0 0
/-- A term of one kind and one number, in its cells. -/
def TmAt (W : World) (g o : Nat) (k n : Int) : Prop := W.cell? ⟨g, o, none⟩ = some (.int .i64 k) ∧ W.cell? ⟨g, o + 1, none⟩ = some (.int .i64 n) ∧ W.cell? ⟨g, o + 2, none⟩ = some (.complex .f64 0 0) ∧ W.cell? ⟨g, o + 3, none⟩ = some (.string e0) ∧ W.cell? ⟨g, o + 4, none⟩ = some (.int .i64 0) ∧ W.cell? ⟨g, o + 5, none⟩ = some (.int .u32 0) ∧ W.cell? ⟨g, o + 6, none⟩ = some (.int .u64 0) ∧ W.cell? ⟨g, o + 7, none⟩ = some nlv ∧ W.cell? ⟨g, o + 8, none⟩ = some nlv
theorem TmAt.gr {g o : Nat} {k n : Int} {S : Nat → Prop} (h : TmAt W g o k n) (gr : Gr S W W') (hs : ¬ S g) : TmAt W' g o k n := by
  obtain ⟨h0, h1, h2, h3, h4, h5, h6, h7, h8⟩ := h
  exact ⟨cell_gr h0 gr hs, cell_gr h1 gr hs, cell_gr h2 gr hs, cell_gr h3 gr hs, cell_gr h4 gr hs, cell_gr h5 gr hs, cell_gr h6 gr hs, cell_gr h7 gr hs, cell_gr h8 gr hs⟩
/-- An instruction in its cells. -/
def InAt (W : World) (g o : Nat) (op k n : Int) : Prop := (W.cell? ⟨g, o, none⟩ = some (.int .i64 op) ∧ W.cell? ⟨g, o + 1, none⟩ = some (.int .i64 0) ∧ W.cell? ⟨g, o + 2, none⟩ = some (.int .i64 0)) ∧ TmAt W g (o + 3) k n
theorem InAt.gr {g o : Nat} {op k n : Int} {S : Nat → Prop} (h : InAt W g o op k n) (gr : Gr S W W') (hs : ¬ S g) : InAt W' g o op k n := by
  obtain ⟨⟨h0, h1, h2⟩, h3⟩ := h
  exact ⟨⟨cell_gr h0 gr hs, cell_gr h1 gr hs, cell_gr h2 gr hs⟩, h3.gr gr hs⟩
theorem InAt.lt {g o : Nat} {op k n : Int} (h : InAt W g o op k n) : g < W.heap.size := World.block_lt_of_cell? _ _ h.1.1
/-- A row of the table of Ops. -/
def OpAt (W : World) (p : Nat) (a t tk pu pa nx : Int) : Prop := (W.cell? ⟨0, p, none⟩ = some (.int .i64 a) ∧ W.cell? ⟨0, p + 1, none⟩ = some (.int .i64 0) ∧ W.cell? ⟨0, p + 2, none⟩ = some (.int .i64 0) ∧ W.cell? ⟨0, p + 3, none⟩ = some (.int .i64 t)) ∧ (W.cell? ⟨0, p + 4, none⟩ = some (.int .i64 tk) ∧ W.cell? ⟨0, p + 5, none⟩ = some (.int .i64 pu) ∧ W.cell? ⟨0, p + 6, none⟩ = some (.int .i64 pa) ∧ W.cell? ⟨0, p + 7, none⟩ = some (.int .i64 nx))
theorem OpAt.gr {p : Nat} {a t tk pu pa nx : Int} {S : Nat → Prop} (h : OpAt W p a t tk pu pa nx) (gr : Gr S W W') (hs : ¬ S 0) : OpAt W' p a t tk pu pa nx := by
  obtain ⟨⟨h0, h1, h2, h3⟩, h4, h5, h6, h7⟩ := h
  exact ⟨⟨cell_gr h0 gr hs, cell_gr h1 gr hs, cell_gr h2 gr hs, cell_gr h3 gr hs⟩, cell_gr h4 gr hs, cell_gr h5 gr hs, cell_gr h6 gr hs, cell_gr h7 gr hs⟩
/-- The three rows that the examples ask for. -/
def Ot (W : World) : Prop := OpAt W 8 0 1 0 1 0 1 ∧ OpAt W 72 2 0 0 0 0 2 ∧ OpAt W 96 0 0 1 0 0 0
theorem Ot.gr {S : Nat → Prop} (h : Ot W) (g : Gr S W W') (hs : ¬ S 0) : Ot W' := ⟨h.1.gr g hs, h.2.1.gr g hs, h.2.2.gr g hs⟩
theorem Ot.lt (h : Ot W) : 0 < W.heap.size := World.block_lt_of_cell? _ _ h.1.1.1
theorem ckInt (W : World) : Calls Tryd.prog 28 #[tv 1 1 0 0 e0 0 0 0 nlv nlv] W fun e w' => e = .returned (.int .i64 0) ∧ Gr (fun _ => False) W w' :=
  check_t (fun _ => False) W (.mk { k := 1, n := 1 } [] []) _ 1 ⟨nlv, nlv, [], rfl, .inl ⟨rfl, _, _, rfl⟩, .inl ⟨rfl, _, _, rfl⟩, rfl⟩ (fun _ h => h.elim) (by simp [hgt, hgtL]) ⟨⟨ok_int 1 (by decide +kernel), by decide, by simp [lenB]⟩, fun s' _ => by simp [okL]⟩ (by simp [goT, stepW, goL, lenB])
theorem eqC (w : World) : (binOp .eql 26 (.complex .f64 0 0) (.complex .f64 0 0)).run Tryd.prog w = .ok (.bool true) w := by kernel_rfl
theorem eqI (w : World) : (binOp .eql 30 (.agg #[.int .i64 0, .int .u32 0, .int .u64 0]) (.agg #[.int .i64 0, .int .u32 0, .int .u64 0])).run Tryd.prog w = .ok (.bool true) w := by kernel_rfl
set_option maxRecDepth 100000 in
set_option maxHeartbeats 1600000 in
theorem zero_c (W : World) (g o : Nat) (h : TmAt W g o 0 0) : Calls Tryd.prog 30 #[.pointer (some ⟨g, o, none⟩)] W fun e w' => e = .returned (.bool true) ∧ Gr (fun _ => False) W w' := by
  obtain ⟨h0, h1, h2, h3, h4, h5, h6, h7, h8⟩ := h
  have hg : g < W.heap.size := World.block_lt_of_cell? _ _ h0
  have q1 := eqC
  have q2 := eqI
  go_enter Tryd.func30, Tryd.ntmps30
  go_wp2_with fail
  go_ret
  exact ⟨rfl, Gr.refl _ _⟩
end Go.Proofs.YtgdadjmeeblfoaaDoor
