/-
  The reader's steps within quotes: a digit of base 16, a coded byte, an escaped one, one byte; and a point.
-/
import Derived.Test.YtdmichjhmfinpaaGreatDoorA
import Derived.Lib.Bytealg
import Derived.Laws.Externs
set_option linter.unusedVariables false
set_option linter.unusedSimpArgs false
namespace Go.Proofs.YtdmichjhmfinpaaGreatDoor
open Go.RowKit

/-- The value of a digit of base 16; -1 of any other byte. -/
def hexv (c : Int) : Int := if 48 ≤ c ∧ c ≤ 57 then c - 48 else if 97 ≤ c ∧ c ≤ 102 then c - 87 else -1
abbrev d16 : ByteArray := ⟨#[48, 49, 50, 51, 52, 53, 54, 55, 56, 57, 97, 98, 99, 100, 101, 102]⟩
theorem hexIdx : ∀ c : Fin 256, Lib.indexByte [48, 49, 50, 51, 52, 53, 54, 55, 56, 57, 97, 98, 99, 100, 101, 102] (c : Nat).toUInt8 = hexv (c : Nat) := by decide +kernel
theorem cf158 (c : Int) (h0 : 0 ≤ c) (h1 : c < 256) (w : World) : (callFunc 158 #[.string d16, .int .u8 c]).run Tryz.prog w = .ok (Next.value (.int .i64 (hexv c))) w := by
  rw [run_callFunc_extern (e := Extern.BytealgIndexByte.indexByte) Tryz.func158 (by kernel_rfl) (by kernel_rfl) (by kernel_rfl) (by kernel_rfl), Lib.run_indexByteString]
  have h := hexIdx ⟨c.toNat, by omega⟩
  have e : ((c.toNat : Nat) : Int) = c := by omega
  simp only [e] at h
  rw [show (d16).data.toList = [48, 49, 50, 51, 52, 53, 54, 55, 56, 57, 97, 98, 99, 100, 101, 102] from rfl, h]
  rfl
theorem idx_c (c : Int) (h0 : 0 ≤ c) (h1 : c < 256) (w : World) : Calls Tryz.prog 151 #[.string d16, .int .u8 c] w fun e w' => e = .returned (.int .i64 (hexv c)) ∧ w = w' := by
  have hx := cf158 c h0 h1
  generalize hexv c = v at hx ⊢
  go_enter Tryz.func151, Tryz.ntmps151
  go_wp2
  go_ret
  exact ⟨rfl, rfl⟩

theorem hexv_lt (c : Int) : hexv c < 16 := by unfold hexv; split; omega; split <;> omega

set_option maxRecDepth 20000 in
set_option maxHeartbeats 800000 in
theorem digit16_ok (W : World) (b : Nat) (s : ByteArray) (i n : Nat) (h : Rd W b s i n) (hi : i ≤ s.size) (v : Int) (hv : hexv (pk s i) = v) (h0 : 0 ≤ v) :
    Calls Tryz.prog 142 #[pt b] W fun e w' => e = .returned (.int .u8 v) ∧ St W b s w' i n := by
  have hk0 := pk_nonneg s i
  have hk1 := pk_lt s i
  have hv2 : v < 16 := hv ▸ hexv_lt _
  have Hv := Lib.hid hv
  clear hv
  go_enter Tryz.func142, Tryz.ntmps142
  go_wp2_with (first
    | (go_at_call 62; refine (peek_c W b s i n h hi).mono ?_; rintro e w1 ⟨rfl, hs1⟩)
    | (go_at_call 151; refine (idx_c _ hk0 hk1 _).mono ?_; rintro e w2 ⟨rfl, rfl⟩; rw [Hv.out]))
  go_ret
  exact ⟨rfl, hs1⟩
set_option maxRecDepth 20000 in
set_option maxHeartbeats 800000 in
theorem digit16_no (W : World) (b : Nat) (s : ByteArray) (i n : Nat) (h : Rd W b s i n) (hi : i ≤ s.size) (h0 : hexv (pk s i) < 0) :
    Calls Tryz.prog 142 #[pt b] W fun e w' => e = gives i 41 ∧ Gr (fun k => k = b) W w' := by
  have hk0 := pk_nonneg s i
  have hk1 := pk_lt s i
  go_enter Tryz.func142, Tryz.ntmps142
  go_wp2_with (first
    | (go_at_call 62; refine (peek_c W b s i n h hi).mono ?_; rintro e w1 ⟨rfl, hs1⟩)
    | (go_at_call 151; refine (idx_c _ hk0 hk1 _).mono ?_; rintro e w2 ⟨rfl, rfl⟩)
    | (go_at_call 89; refine (misplaced_c _ b s i n hs1.1).mono ?_; rintro e w3 ⟨rfl, hs3⟩))
  exact ⟨rfl, rfl, hs1.2.trans hs3.2⟩

set_option maxRecDepth 20000 in
set_option maxHeartbeats 800000 in
theorem point_ok (W : World) (b : Nat) (s : ByteArray) (i n : Nat) (h : Rd W b s i n) (hs : s.size ≤ 65536) (hc : pk s i = 46) :
    Calls Tryz.prog 135 #[pt b] W fun e w' => e = .returned (.tuple #[]) ∧ St W b s w' (i + 1) n := by
  have hi : i < s.size := lt_of_pk (by rw [hc]; decide)
  have hi2 : (i : Int) ≤ 65536 := by omega
  have hb := h.lt
  go_enter Tryz.func135, Tryz.ntmps135
  go_wp2_with (first
    | (go_at_call 62; refine (peek_c W b s i n h (by omega)).mono ?_; rw [hc]; rintro e w1 ⟨rfl, hs1⟩; obtain ⟨c0, c1, c2, f0, f1, f2⟩ := hs1.1.facts))
  go_end0
  exact ⟨rfl, hs1.1.setAt (i + 1), hs1.2.trans (Gr.set _ _ _ rfl)⟩
set_option maxRecDepth 20000 in
set_option maxHeartbeats 800000 in
theorem point_no (W : World) (b : Nat) (s : ByteArray) (i n : Nat) (h : Rd W b s i n) (hi : i ≤ s.size) (hc : pk s i ≠ 46) :
    Calls Tryz.prog 135 #[pt b] W fun e w' => e = gives i 41 ∧ Gr (fun k => k = b) W w' := by
  have hc' : (pk s i != 46) = true := by rw [bne_iff_ne]; exact hc
  go_enter Tryz.func135, Tryz.ntmps135
  go_wp2_with (first
    | (go_at_call 62; refine (peek_c W b s i n h hi).mono ?_; rintro e w1 ⟨rfl, hs1⟩)
    | (go_at_call 89; refine (misplaced_c _ b s i n hs1.1).mono ?_; rintro e w3 ⟨rfl, hs3⟩))
  exact ⟨rfl, rfl, hs1.2.trans hs3.2⟩

/-! ### A coded byte -/
theorem or15 : ∀ v : Fin 16, bits .or .u8 ((v : Nat) * 16 : Int) 15 = (v : Nat) * 16 + 15 := by decide +kernel
theorem orv : ∀ v x : Fin 16, bits .or .u8 ((v : Nat) * 16 : Int) (x : Nat) = (v : Nat) * 16 + (x : Nat) := by decide +kernel
theorem or15' (v : Int) (h0 : 0 ≤ v) (h1 : v < 16) : bits .or .u8 (v * 16) 15 = v * 16 + 15 := by
  have h := or15 ⟨v.toNat, by omega⟩
  simp only [Int.toNat_of_nonneg h0] at h
  exact h
theorem orv' (v x : Int) (h0 : 0 ≤ v) (h1 : v < 16) (k0 : 0 ≤ x) (k1 : x < 16) : bits .or .u8 (v * 16) x = v * 16 + x := by
  have h := orv ⟨v.toNat, by omega⟩ ⟨x.toNat, by omega⟩
  simp only [Int.toNat_of_nonneg h0, Int.toNat_of_nonneg k0] at h
  exact h

def cod (s : ByteArray) (i : Nat) : Except Nat (Int × Nat) :=
  if hexv (pk s i) < 0 then .error i else if shw (hexv (pk s i) * 16) = true ∧ shw (hexv (pk s i) * 16 + 15) = true then .error i
  else if hexv (pk s (i + 1)) < 0 then .error (i + 1) else if shw (hexv (pk s i) * 16 + hexv (pk s (i + 1))) = true then .error (i + 1)
  else .ok (hexv (pk s i) * 16 + hexv (pk s (i + 1)), i + 2)
def esc (s : ByteArray) (i : Nat) : Except Nat (Int × Nat) :=
  if pk s i = 34 ∨ pk s i = 92 then .ok (pk s i, i + 1) else if pk s i = 120 then cod s (i + 1) else .error i
def one (s : ByteArray) (i : Nat) : Except Nat (Int × Nat) :=
  if shw (pk s i) = false then .error i else if pk s i = 92 then esc s (i + 1) else .ok (pk s i, i + 1)

/-- How a step ends that reads one byte's value. -/
def End8 (W : World) (b : Nat) (s : ByteArray) (n : Nat) (e : Ending) (w' : World) : Except Nat (Int × Nat) → Prop
  | .ok (c, j) => e = .returned (.int .u8 c) ∧ St W b s w' j n
  | .error j => e = gives j 41 ∧ Gr (fun k => k = b) W w'

theorem lt_of_hexv {s : ByteArray} {i : Nat} (h : 0 ≤ hexv (pk s i)) : i < s.size := lt_of_pk (fun e => by rw [e] at h; exact absurd h (by decide))

set_option maxRecDepth 20000 in
set_option maxHeartbeats 1600000 in
theorem coded_c (W : World) (b : Nat) (s : ByteArray) (i n : Nat) (h : Rd W b s i n) (hs : s.size ≤ 65536) (hi : i ≤ s.size) :
    Calls Tryz.prog 129 #[pt b] W fun e w' => End8 W b s n e w' (cod s i) := by
  have hi2 : (i : Int) ≤ 65536 := by omega
  by_cases h1 : hexv (pk s i) < 0
  · rw [show cod s i = .error i by simp [cod, h1]]
    go_enter Tryz.func129, Tryz.ntmps129
    go_wp2_with (first | (go_at_call 142; refine (digit16_no W b s i n h hi h1).mono ?_; rintro e w1 ⟨rfl, hg⟩))
    exact ⟨rfl, rfl, hg⟩
  have h1' : 0 ≤ hexv (pk s i) := by omega
  have hlt := lt_of_hexv h1'
  have hv2 := hexv_lt (pk s i)
  obtain ⟨v, hv⟩ : ∃ v, hexv (pk s i) = v := ⟨_, rfl⟩
  rw [hv] at h1 h1' hv2
  have e2 := or15' v h1' hv2
  have Hv := Lib.hid hv
  have hd1 := fun W h => digit16_ok W b s i n h hi v Hv.out h1'
  by_cases h2 : shw (v * 16) = true ∧ shw (v * 16 + 15) = true
  · rw [show cod s i = .error i by simp only [cod, hv, h1, h2, if_true, if_false, and_self]]
    have h2a := h2.1
    have h2b := h2.2
    clear hv h2
    go_enter Tryz.func129, Tryz.ntmps129
    go_wp2_with fail
    refine (hd1 _ h).mono ?_
    rintro e w1 ⟨rfl, hs1⟩
    go_wp2_with (first | (go_at_call 73; refine (shown_c _ _).mono ?_; rintro e w2 ⟨rfl, rfl⟩) | (go_at_call 89; refine (misplaced_c _ b s i n hs1.1).mono ?_; rintro e w3 ⟨rfl, hs3⟩))
    exact ⟨rfl, rfl, hs1.2.trans hs3.2⟩
  have h2c : (shw (v * 16) = false) ∨ (shw (v * 16) = true ∧ shw (v * 16 + 15) = false) := by
    cases ha : shw (v * 16) <;> cases hb : shw (v * 16 + 15) <;> simp_all
  by_cases h3 : hexv (pk s (i + 1)) < 0
  · rw [show cod s i = .error (i + 1) by simp only [cod, hv, h1, h2, h3, if_true, if_false]]
    clear hv h2
    rcases h2c with h2a | ⟨h2a, h2b⟩
    all_goals
      go_enter Tryz.func129, Tryz.ntmps129
      go_wp2_with fail
      refine (hd1 _ h).mono ?_
      rintro e w1 ⟨rfl, hs1⟩
      obtain ⟨c0, c1, c2, f0, f1, f2⟩ := hs1.1.facts
      have hs2 := hs1.1.setAt (i + 1)
      have hg2 := hs1.2.trans (Gr.set (S := fun k => k = b) w1 ⟨b, 1, none⟩ (.int .i64 ((i + 1 : Nat) : Int)) rfl)
      go_wp2_with (first | (go_at_call 73; refine (shown_c _ _).mono ?_; rintro e w2 ⟨rfl, rfl⟩))
      refine (digit16_no _ b s (i + 1) n hs2 (by omega) h3).mono ?_
      rintro e w3 ⟨rfl, hg3⟩
      exact ⟨rfl, rfl, hg2.trans hg3⟩
  have h3' : 0 ≤ hexv (pk s (i + 1)) := by omega
  have hlt2 := lt_of_hexv h3'
  have hx2 := hexv_lt (pk s (i + 1))
  obtain ⟨x, hx⟩ : ∃ x, hexv (pk s (i + 1)) = x := ⟨_, rfl⟩
  rw [hx] at h3 h3' hx2
  have Hx := Lib.hid hx
  have hd2 := fun W h => digit16_ok W b s (i + 1) n h (by omega) x Hx.out h3'
  have e3 := orv' v x h1' hv2 h3' hx2
  by_cases h4 : shw (v * 16 + x) = true
  · rw [show cod s i = .error (i + 1) by simp only [cod, hv, hx, h1, h2, h3, h4, if_true, if_false]]
    clear hv hx h2
    rcases h2c with h2a | ⟨h2a, h2b⟩
    all_goals
      go_enter Tryz.func129, Tryz.ntmps129
      go_wp2_with fail
      refine (hd1 _ h).mono ?_
      rintro e w1 ⟨rfl, hs1⟩
      obtain ⟨c0, c1, c2, f0, f1, f2⟩ := hs1.1.facts
      have hs2 := hs1.1.setAt (i + 1)
      have hg2 := hs1.2.trans (Gr.set (S := fun k => k = b) w1 ⟨b, 1, none⟩ (.int .i64 ((i + 1 : Nat) : Int)) rfl)
      go_wp2_with (first | (go_at_call 73; refine (shown_c _ _).mono ?_; rintro e w2 ⟨rfl, rfl⟩))
      refine (hd2 _ hs2).mono ?_
      rintro e w3 ⟨rfl, hs3⟩
      go_wp2_with (first | (go_at_call 73; refine (shown_c _ _).mono ?_; rintro e w2 ⟨rfl, rfl⟩) | (go_at_call 89; refine (misplaced_c _ b s (i + 1) n hs3.1).mono ?_; rintro e w4 ⟨rfl, hs4⟩))
      exact ⟨rfl, rfl, (hg2.trans hs3.2).trans hs4.2⟩
  have h4' : shw (v * 16 + x) = false := by simpa using h4
  rw [show cod s i = .ok (v * 16 + x, i + 2) by simp only [cod, hv, hx, h1, h2, h3, h4', if_false, Bool.false_eq_true]]
  clear hv hx h2 h4
  have hi3 : (i : Int) + 1 < 65536 := by omega
  rcases h2c with h2a | ⟨h2a, h2b⟩
  all_goals
    go_enter Tryz.func129, Tryz.ntmps129
    go_wp2_with fail
    refine (hd1 _ h).mono ?_
    rintro e w1 ⟨rfl, hs1⟩
    obtain ⟨c0, c1, c2, f0, f1, f2⟩ := hs1.1.facts
    have hs2 := hs1.1.setAt (i + 1)
    have hg2 := hs1.2.trans (Gr.set (S := fun k => k = b) w1 ⟨b, 1, none⟩ (.int .i64 ((i + 1 : Nat) : Int)) rfl)
    go_wp2_with (first | (go_at_call 73; refine (shown_c _ _).mono ?_; rintro e w2 ⟨rfl, rfl⟩))
    refine (hd2 _ hs2).mono ?_
    rintro e w3 ⟨rfl, hs3⟩
    obtain ⟨k0, k1, k2, l0, l1, l2⟩ := hs3.1.facts
    go_wp2_with (first | (go_at_call 73; refine (shown_c _ _).mono ?_; rintro e w2 ⟨rfl, rfl⟩))
    go_ret
    exact ⟨rfl, hs3.1.setAt (i + 2), (hg2.trans hs3.2).trans (Gr.set _ _ _ rfl)⟩

set_option maxRecDepth 20000 in
set_option maxHeartbeats 1600000 in
theorem escaped_c (W : World) (b : Nat) (s : ByteArray) (i n : Nat) (h : Rd W b s i n) (hs : s.size ≤ 65536) (hi : i ≤ s.size) :
    Calls Tryz.prog 111 #[pt b] W fun e w' => End8 W b s n e w' (esc s i) := by
  have hi2 : (i : Int) ≤ 65536 := by omega
  obtain ⟨c, hc⟩ : ∃ c, pk s i = c := ⟨_, rfl⟩
  have Hc := Lib.hid hc
  have hp := fun W h => peek_c W b s i n h hi
  rw [hc] at hp
  by_cases h1 : c = 34 ∨ c = 92
  · rw [show esc s i = .ok (c, i + 1) by simp [esc, hc, h1]]
    clear hc
    rcases h1 with rfl | rfl
    all_goals
      go_enter Tryz.func111, Tryz.ntmps111
      go_wp2_with fail
      refine (hp _ h).mono ?_
      rintro e w1 ⟨rfl, hs1⟩
      obtain ⟨c0, c1, c2, f0, f1, f2⟩ := hs1.1.facts
      go_wp2_with fail
      go_ret
      exact ⟨rfl, hs1.1.setAt (i + 1), hs1.2.trans (Gr.set _ _ _ rfl)⟩
  by_cases h2 : c = 120
  · have hlt : i < s.size := lt_of_pk (by rw [hc, h2]; decide)
    rw [show esc s i = cod s (i + 1) by simp [esc, hc, h2]]
    clear hc
    subst h2
    have hcc := fun W h => coded_c W b s (i + 1) n h hs (by omega)
    generalize cod s (i + 1) = r at hcc ⊢
    rcases r with j | ⟨x, j⟩
    · simp only [End8] at hcc ⊢
      go_enter Tryz.func111, Tryz.ntmps111
      go_wp2_with fail
      refine (hp _ h).mono ?_
      rintro e w1 ⟨rfl, hs1⟩
      obtain ⟨c0, c1, c2, f0, f1, f2⟩ := hs1.1.facts
      have hs2 := hs1.1.setAt (i + 1)
      have hg2 := hs1.2.trans (Gr.set (S := fun k => k = b) w1 ⟨b, 1, none⟩ (.int .i64 ((i + 1 : Nat) : Int)) rfl)
      go_wp2_with fail
      refine (hcc _ hs2).mono ?_
      rintro e w3 ⟨rfl, hg3⟩
      exact ⟨rfl, rfl, hg2.trans hg3⟩
    · simp only [End8] at hcc ⊢
      go_enter Tryz.func111, Tryz.ntmps111
      go_wp2_with fail
      refine (hp _ h).mono ?_
      rintro e w1 ⟨rfl, hs1⟩
      obtain ⟨c0, c1, c2, f0, f1, f2⟩ := hs1.1.facts
      have hs2 := hs1.1.setAt (i + 1)
      have hg2 := hs1.2.trans (Gr.set (S := fun k => k = b) w1 ⟨b, 1, none⟩ (.int .i64 ((i + 1 : Nat) : Int)) rfl)
      go_wp2_with fail
      refine (hcc _ hs2).mono ?_
      rintro e w3 ⟨rfl, hs3⟩
      go_wp2_with fail
      go_ret
      exact ⟨rfl, hs3.1, hg2.trans hs3.2⟩
  · rw [show esc s i = .error i by simp [esc, hc, h1, h2]]
    have k1 : (c == 34) = false := by simp; omega
    have k2 : (c == 92) = false := by simp; omega
    have k3 : (c == 120) = false := by simp; omega
    clear hc h1 h2
    go_enter Tryz.func111, Tryz.ntmps111
    go_wp2_with fail
    refine (hp _ h).mono ?_
    rintro e w1 ⟨rfl, hs1⟩
    go_wp2_with (first | (go_at_call 89; refine (misplaced_c _ b s i n hs1.1).mono ?_; rintro e w4 ⟨rfl, hs4⟩))
    exact ⟨rfl, rfl, hs1.2.trans hs4.2⟩

set_option maxRecDepth 20000 in
set_option maxHeartbeats 1600000 in
theorem oneByte_c (W : World) (b : Nat) (s : ByteArray) (i n : Nat) (h : Rd W b s i n) (hs : s.size ≤ 65536) (hi : i ≤ s.size) :
    Calls Tryz.prog 90 #[pt b] W fun e w' => End8 W b s n e w' (one s i) := by
  have hi2 : (i : Int) ≤ 65536 := by omega
  obtain ⟨c, hc⟩ : ∃ c, pk s i = c := ⟨_, rfl⟩
  have Hc := Lib.hid hc
  have hp := fun W h => peek_c W b s i n h hi
  rw [hc] at hp
  by_cases h1 : shw c = false
  · rw [show one s i = .error i by simp [one, hc, h1]]
    clear hc
    go_enter Tryz.func90, Tryz.ntmps90
    go_wp2_with fail
    refine (hp _ h).mono ?_
    rintro e w1 ⟨rfl, hs1⟩
    go_wp2_with (first | (go_at_call 73; refine (shown_c _ _).mono ?_; rintro e w2 ⟨rfl, rfl⟩) | (go_at_call 89; refine (misplaced_c _ b s i n hs1.1).mono ?_; rintro e w4 ⟨rfl, hs4⟩))
    exact ⟨rfl, rfl, hs1.2.trans hs4.2⟩
  have h1' : shw c = true := by simpa using h1
  have hlt : i < s.size := lt_of_pk (by rw [hc]; intro e; rw [e] at h1'; exact absurd h1' (by decide))
  by_cases h2 : c = 92
  · rw [show one s i = esc s (i + 1) by subst h2; simp [one, hc, h1']]
    clear hc
    subst h2
    have hcc := fun W h => escaped_c W b s (i + 1) n h hs (by omega)
    generalize esc s (i + 1) = r at hcc ⊢
    rcases r with j | ⟨x, j⟩
    · simp only [End8] at hcc ⊢
      go_enter Tryz.func90, Tryz.ntmps90
      go_wp2_with fail
      refine (hp _ h).mono ?_
      rintro e w1 ⟨rfl, hs1⟩
      obtain ⟨c0, c1, c2, f0, f1, f2⟩ := hs1.1.facts
      have hs2 := hs1.1.setAt (i + 1)
      have hg2 := hs1.2.trans (Gr.set (S := fun k => k = b) w1 ⟨b, 1, none⟩ (.int .i64 ((i + 1 : Nat) : Int)) rfl)
      go_wp2_with (first | (go_at_call 73; refine (shown_c _ _).mono ?_; rintro e w2 ⟨rfl, rfl⟩))
      refine (hcc _ hs2).mono ?_
      rintro e w3 ⟨rfl, hg3⟩
      exact ⟨rfl, rfl, hg2.trans hg3⟩
    · simp only [End8] at hcc ⊢
      go_enter Tryz.func90, Tryz.ntmps90
      go_wp2_with fail
      refine (hp _ h).mono ?_
      rintro e w1 ⟨rfl, hs1⟩
      obtain ⟨c0, c1, c2, f0, f1, f2⟩ := hs1.1.facts
      have hs2 := hs1.1.setAt (i + 1)
      have hg2 := hs1.2.trans (Gr.set (S := fun k => k = b) w1 ⟨b, 1, none⟩ (.int .i64 ((i + 1 : Nat) : Int)) rfl)
      go_wp2_with (first | (go_at_call 73; refine (shown_c _ _).mono ?_; rintro e w2 ⟨rfl, rfl⟩))
      refine (hcc _ hs2).mono ?_
      rintro e w3 ⟨rfl, hs3⟩
      go_wp2_with fail
      go_ret
      exact ⟨rfl, hs3.1, hg2.trans hs3.2⟩
  · rw [show one s i = .ok (c, i + 1) by simp [one, hc, h1, h2]]
    have k2 : (c == 92) = false := by simpa using h2
    clear hc h2
    go_enter Tryz.func90, Tryz.ntmps90
    go_wp2_with fail
    refine (hp _ h).mono ?_
    rintro e w1 ⟨rfl, hs1⟩
    obtain ⟨c0, c1, c2, f0, f1, f2⟩ := hs1.1.facts
    go_wp2_with (first | (go_at_call 73; refine (shown_c _ _).mono ?_; rintro e w2 ⟨rfl, rfl⟩))
    go_ret
    exact ⟨rfl, hs1.1.setAt (i + 1), hs1.2.trans (Gr.set _ _ _ rfl)⟩
end Go.Proofs.YtdmichjhmfinpaaGreatDoor
