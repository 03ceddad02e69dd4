/-
  Carried over from another seat of ours (B).
-/
import Derived.Test.YtbmbgnmkakkpfaaDoorA
import Derived.Lib.Bytealg
import Derived.Laws.Externs
set_option linter.unusedVariables false
set_option linter.unusedSimpArgs false
namespace Go.Proofs.YtbmbgnmkakkpfaaDoor
open Go.RowKit

/-- The value of a digit of base 16; -1 of any other byte. -/
def hexv (c : Int) : Int := if 48 ≤ c ∧ c ≤ 57 then c - 48 else if 97 ≤ c ∧ c ≤ 102 then c - 87 else -1
/-- The place of an escape's letter among n, t, \ and the quote; -1 of any other byte. -/
def esci (c : Int) : Int := if c = 110 then 0 else if c = 116 then 1 else if c = 92 then 2 else if c = 34 then 3 else -1
abbrev d16 : ByteArray := ⟨#[48, 49, 50, 51, 52, 53, 54, 55, 56, 57, 97, 98, 99, 100, 101, 102]⟩
abbrev eIn : ByteArray := ⟨#[110, 116, 92, 34]⟩
abbrev eOut : ByteArray := ⟨#[10, 9, 92, 34]⟩
theorem hexIdx : ∀ c : Fin 256, Lib.indexByte [48, 49, 50, 51, 52, 53, 54, 55, 56, 57, 97, 98, 99, 100, 101, 102] (c : Nat).toUInt8 = hexv (c : Nat) := by decide +kernel
theorem escIdx : ∀ c : Fin 256, Lib.indexByte [110, 116, 92, 34] (c : Nat).toUInt8 = esci (c : Nat) := by decide +kernel
theorem cf61 (t : ByteArray) (l : List UInt8) (ht : t.data.toList = l) (c v : Int) (h0 : 0 ≤ c) (h1 : c < 256) (h : Lib.indexByte l (c.toNat).toUInt8 = v) (w : World) : (callFunc 73 #[.string t, .int .u8 c]).run Tryd.prog w = .ok (Next.value (.int .i64 v)) w := by
  rw [run_callFunc_extern (e := Extern.BytealgIndexByte.indexByte) Tryd.func73 (by kernel_rfl) (by kernel_rfl) (by kernel_rfl) (by kernel_rfl), Lib.run_indexByteString]
  rw [ht]
  have e : (UInt8.ofNat c.toNat) = (c.toNat).toUInt8 := rfl
  rw [← h]
  rfl
theorem idx_c (t : ByteArray) (l : List UInt8) (ht : t.data.toList = l) (c v : Int) (h0 : 0 ≤ c) (h1 : c < 256) (h : Lib.indexByte l (c.toNat).toUInt8 = v) (w : World) : Calls Tryd.prog 60 #[.string t, .int .u8 c] w fun e w' => e = .returned (.int .i64 v) ∧ w = w' := by
  have hx := cf61 t l ht c v h0 h1 h
  clear h ht
  go_enter Tryd.func60, Tryd.ntmps60
  go_wp2_with (first | (go_at_call 67; go_in))
  go_ret
  exact ⟨rfl, rfl⟩
theorem hexidx_c (c : Int) (h0 : 0 ≤ c) (h1 : c < 256) (w : World) : Calls Tryd.prog 60 #[.string d16, .int .u8 c] w fun e w' => e = .returned (.int .i64 (hexv c)) ∧ w = w' := by
  have h := hexIdx ⟨c.toNat, by omega⟩
  exact idx_c d16 _ rfl c _ h0 h1 (by rw [h]; simp only [Int.toNat_of_nonneg h0]) w
theorem escidx_c (c : Int) (h0 : 0 ≤ c) (h1 : c < 256) (w : World) : Calls Tryd.prog 60 #[.string eIn, .int .u8 c] w fun e w' => e = .returned (.int .i64 (esci c)) ∧ w = w' := by
  have h := escIdx ⟨c.toNat, by omega⟩
  exact idx_c eIn _ rfl c _ h0 h1 (by rw [h]; simp only [Int.toNat_of_nonneg h0]) w
theorem hexv_lt (c : Int) : hexv c < 16 := by unfold hexv; split; omega; split <;> omega
theorem hexv_ge (c : Int) : -1 ≤ hexv c := by unfold hexv; split; omega; split <;> omega
theorem lt_of_hexv {s : ByteArray} {i : Nat} (h : 0 ≤ hexv (pk s i)) : i < s.size := lt_of_pk (fun e => by rw [e] at h; exact absurd h (by decide))

theorem orv : ∀ v x : Fin 16, bits .or .i64 ((v : Nat) * 16 : Int) (x : Nat) = (v : Nat) * 16 + (x : Nat) := by decide +kernel
theorem orv' (v x : Int) (h0 : 0 ≤ v) (h1 : v < 16) (k0 : 0 ≤ x) (k1 : x < 16) : bits .or .i64 (v * 16) x = v * 16 + x := by
  have h := orv ⟨v.toNat, by omega⟩ ⟨x.toNat, by omega⟩
  simp only [Int.toNat_of_nonneg h0, Int.toNat_of_nonneg k0] at h
  exact h

/-- What an escape stands for whose letter stands at i, and the place behind it. -/
def esc (s : ByteArray) (i : Nat) : Option (Int × Nat) :=
  if pk s i = 110 then some (10, i + 1) else if pk s i = 116 then some (9, i + 1) else if pk s i = 92 then some (92, i + 1) else if pk s i = 34 then some (34, i + 1)
  else if pk s i = 120 then (if 0 ≤ hexv (pk s (i + 1)) ∧ 0 ≤ hexv (pk s (i + 2)) then some (hexv (pk s (i + 1)) * 16 + hexv (pk s (i + 2)), i + 3) else none) else none
/-- One byte within quotes. -/
def one (s : ByteArray) (i : Nat) : Option (Int × Nat) :=
  if pk s i = 92 then esc s (i + 1) else if shw (pk s i) = true then some (pk s i, i + 1) else none

/-- How a step ends that reads one byte's value. -/
def End8 (W : World) (b : Nat) (s : ByteArray) (e : Ending) (w' : World) : Option (Int × Nat) → Prop
  | some (c, j) => e = .returned (.tuple #[.int .u8 c, .bool true]) ∧ St W b s w' j
  | none => (∃ c, e = .returned (.tuple #[.int .u8 c, .bool false])) ∧ Gr (fun k => k = b) W w'

theorem exo (k : Nat) (h : k < 4) (c : Int) (hc : (match k with | 0 => 10 | 1 => 9 | 2 => 92 | _ => 34 : Int) = c) (w : World) : (Instr.index 9 (.string eOut) (.int .i64 (k : Int))).run Tryd.prog w = .ok (.int .u8 c) w := by
  rw [ix eOut k h]
  rw [← hc]
  match k, h with
  | 0, _ => rfl
  | 1, _ => rfl
  | 2, _ => rfl
  | 3, _ => rfl

set_option maxRecDepth 20000 in
set_option maxHeartbeats 1600000 in
theorem escape_c (W : World) (b : Nat) (s : ByteArray) (i : Nat) (h : Rd W b s i) (hi : i ≤ 65536) :
    Calls Tryd.prog 47 #[pt b] W fun e w' => End8 W b s e w' (esc s i) := by
  have hp0 := pk_nonneg s i
  have hp1 := pk_lt s i
  obtain ⟨c, hc⟩ : ∃ c, pk s i = c := ⟨_, rfl⟩
  have hp := fun W h => next_c W b s i h (by omega)
  rw [hc] at hp hp0 hp1
  have he := fun w => escidx_c c hp0 hp1 w
  have x0 := exo 0 (by decide) 10 rfl
  have x1 := exo 1 (by decide) 9 rfl
  have x2 := exo 2 (by decide) 92 rfl
  have x3 := exo 3 (by decide) 34 rfl
  by_cases h0 : c = 110 ∨ c = 116 ∨ c = 92 ∨ c = 34
  · rw [esc, hc]
    clear hc
    rcases h0 with rfl | rfl | rfl | rfl
    all_goals
      simp (config := { decide := true }) only [if_true, if_false]
      simp (config := { decide := true }) only [esci, if_true, if_false] at he
      go_enter Tryd.func47, Tryd.ntmps47
      go_wp2_with fail
      refine (hp _ h).mono ?_
      rintro e w1 ⟨rfl, hs1⟩
      go_wp2_with fail
      refine (he _).mono ?_
      rintro e w2 ⟨rfl, rfl⟩
      go_wp2_with fail
      go_ret2
      exact ⟨rfl, hs1⟩
  have n0 : ¬ c = 110 := fun e => h0 (.inl e)
  have n1 : ¬ c = 116 := fun e => h0 (.inr (.inl e))
  have n2 : ¬ c = 92 := fun e => h0 (.inr (.inr (.inl e)))
  have n3 : ¬ c = 34 := fun e => h0 (.inr (.inr (.inr e)))
  have hm : esci c = -1 := by simp only [esci, n0, n1, n2, n3, if_false]
  rw [hm] at he
  by_cases h1 : c = 120
  · obtain ⟨v, hv⟩ : ∃ v, hexv (pk s (i + 1)) = v := ⟨_, rfl⟩
    obtain ⟨x, hx⟩ : ∃ x, hexv (pk s (i + 2)) = x := ⟨_, rfl⟩
    have hr : esc s i = if 0 ≤ v ∧ 0 ≤ x then some (v * 16 + x, i + 3) else none := by
      rw [esc, hc, hv, hx, if_neg n0, if_neg n1, if_neg n2, if_neg n3, if_pos h1]
    have hv1 : v < 16 := hv ▸ hexv_lt _
    have hv0 : -1 ≤ v := hv ▸ hexv_ge _
    have hx1 : x < 16 := hx ▸ hexv_lt _
    have hx0 : -1 ≤ x := hx ▸ hexv_ge _
    have hd1 := fun w => hexidx_c _ (pk_nonneg s (i + 1)) (pk_lt s (i + 1)) w
    have hd2 := fun w => hexidx_c _ (pk_nonneg s (i + 2)) (pk_lt s (i + 2)) w
    rw [hv] at hd1
    rw [hx] at hd2
    have hn1 := fun W h => next_c W b s (i + 1) h (by omega)
    have hn2 := fun W h => next_c W b s (i + 1 + 1) h (by omega)
    rw [hr]
    clear hr hc hv hx n0 n1 n2 n3 h0 hm
    subst h1
    have ho : 0 ≤ v → 0 ≤ x → bits .or .i64 (v * 16) x = v * 16 + x := fun h2 h3 => orv' v x h2 hv1 h3 hx1
    by_cases h2 : 0 ≤ v <;> by_cases h3 : 0 ≤ x
    · have e3 := ho h2 h3
      rw [if_pos ⟨h2, h3⟩]
      clear ho
      go_enter Tryd.func47, Tryd.ntmps47
      go_wp2_with fail
      refine (hp _ h).mono ?_
      rintro e w1 ⟨rfl, hs1⟩
      go_wp2_with fail
      refine (he _).mono ?_
      rintro e w2 ⟨rfl, rfl⟩
      go_wp2_with fail
      refine (hn1 _ hs1.1).mono ?_
      rintro e w2 ⟨rfl, hs2⟩
      go_wp2_with fail
      refine (hd1 _).mono ?_
      rintro e w3 ⟨rfl, rfl⟩
      go_wp2_with fail
      refine (hn2 _ hs2.1).mono ?_
      rintro e w3 ⟨rfl, hs3⟩
      go_wp2_with fail
      refine (hd2 _).mono ?_
      rintro e w4 ⟨rfl, rfl⟩
      go_wp2_with fail
      go_ret2
      exact ⟨rfl, (hs1.trans hs2).trans hs3⟩
    all_goals
      rw [if_neg (fun e => by omega)]
      clear ho
      try have h2b : decide (0 ≤ v) = false := decide_eq_false h2
      try have h3b : decide (0 ≤ x) = false := decide_eq_false h3
      go_enter Tryd.func47, Tryd.ntmps47
      go_wp2_with fail
      refine (hp _ h).mono ?_
      rintro e w1 ⟨rfl, hs1⟩
      go_wp2_with fail
      refine (he _).mono ?_
      rintro e w2 ⟨rfl, rfl⟩
      go_wp2_with fail
      refine (hn1 _ hs1.1).mono ?_
      rintro e w2 ⟨rfl, hs2⟩
      go_wp2_with fail
      refine (hd1 _).mono ?_
      rintro e w3 ⟨rfl, rfl⟩
      go_wp2_with fail
      refine (hn2 _ hs2.1).mono ?_
      rintro e w3 ⟨rfl, hs3⟩
      go_wp2_with fail
      refine (hd2 _).mono ?_
      rintro e w4 ⟨rfl, rfl⟩
      go_wp2_with fail
      go_ret2
      exact ⟨⟨_, rfl⟩, ((hs1.trans hs2).trans hs3).2⟩
  · rw [show esc s i = none by rw [esc, hc]; simp only [n0, n1, n2, n3, h1, if_false]]
    have h1' : (c != 120) = true := by rw [bne_iff_ne]; exact h1
    clear hc n0 n1 n2 n3 h0 hm h1
    go_enter Tryd.func47, Tryd.ntmps47
    go_wp2_with fail
    refine (hp _ h).mono ?_
    rintro e w1 ⟨rfl, hs1⟩
    go_wp2_with fail
    refine (he _).mono ?_
    rintro e w2 ⟨rfl, rfl⟩
    go_wp2_with fail
    go_ret2
    exact ⟨⟨_, rfl⟩, hs1.2⟩

set_option maxRecDepth 20000 in
set_option maxHeartbeats 1600000 in
theorem oneByte_c (W : World) (b : Nat) (s : ByteArray) (i : Nat) (h : Rd W b s i) (hi : i ≤ 65000) :
    Calls Tryd.prog 38 #[pt b] W fun e w' => End8 W b s e w' (one s i) := by
  have hn := fun W h => next_c W b s i h (by omega)
  have he := fun W h => escape_c W b s (i + 1) h (by omega)
  unfold one
  generalize pk s i = c at hn ⊢
  by_cases h1 : c = 92
  · rw [if_pos h1]
    subst h1
    generalize esc s (i + 1) = r at he ⊢
    rcases r with _ | ⟨x, j⟩
    · simp only [End8] at he ⊢
      go_enter Tryd.func38, Tryd.ntmps38
      go_wp2_with fail
      refine (hn _ h).mono ?_
      rintro e w1 ⟨rfl, hs1⟩
      go_wp2_with fail
      refine (he _ hs1.1).mono ?_
      rintro e w2 ⟨⟨x, rfl⟩, hg2⟩
      go_wp2_with fail
      go_ret2
      exact ⟨⟨x, rfl⟩, hs1.2.trans hg2⟩
    · simp only [End8] at he ⊢
      go_enter Tryd.func38, Tryd.ntmps38
      go_wp2_with fail
      refine (hn _ h).mono ?_
      rintro e w1 ⟨rfl, hs1⟩
      go_wp2_with fail
      refine (he _ hs1.1).mono ?_
      rintro e w2 ⟨rfl, hs2⟩
      go_wp2_with fail
      go_ret2
      exact ⟨rfl, hs1.trans hs2⟩
  · rw [if_neg h1]
    have h1' : (c == 92) = false := by simpa using h1
    clear h1 he
    have hs := fun w => shown_c c w
    cases h2 : shw c
    · rw [h2] at hs
      rw [if_neg (by decide)]
      simp only [End8]
      clear h2
      go_enter Tryd.func38, Tryd.ntmps38
      go_wp2_with fail
      refine (hn _ h).mono ?_
      rintro e w1 ⟨rfl, hs1⟩
      go_wp2_with fail
      refine (hs _).mono ?_
      rintro e w2 ⟨rfl, rfl⟩
      go_wp2_with fail
      go_ret2
      exact ⟨⟨_, rfl⟩, hs1.2⟩
    · rw [h2] at hs
      rw [if_pos rfl]
      simp only [End8]
      clear h2
      go_enter Tryd.func38, Tryd.ntmps38
      go_wp2_with fail
      refine (hn _ h).mono ?_
      rintro e w1 ⟨rfl, hs1⟩
      go_wp2_with fail
      refine (hs _).mono ?_
      rintro e w2 ⟨rfl, rfl⟩
      go_wp2_with fail
      go_ret2
      exact ⟨rfl, hs1⟩
theorem one_ok {s : ByteArray} {i j : Nat} {c : Int} (h : one s i = some (c, j)) : i < j ∧ j ≤ s.size := by
  have hpk : ∀ {i : Nat} {x : Int}, pk s i = x → x ≠ 0 → i + 1 ≤ s.size := by
    intro i x h1 h2
    exact lt_of_pk (by rw [h1]; exact h2)
  have hesc : ∀ {i j : Nat} {c : Int}, esc s i = some (c, j) → i < j ∧ j ≤ s.size := by
    intro i j c h
    unfold esc at h
    split at h
    · cases h; rename_i h1; exact ⟨by omega, hpk h1 (by decide)⟩
    · split at h
      · cases h; rename_i h1; exact ⟨by omega, hpk h1 (by decide)⟩
      · split at h
        · cases h; rename_i h1; exact ⟨by omega, hpk h1 (by decide)⟩
        · split at h
          · cases h; rename_i h1; exact ⟨by omega, hpk h1 (by decide)⟩
          · split at h
            · split at h
              · cases h
                rename_i h2
                have := lt_of_hexv h2.2
                omega
              · cases h
            · cases h
  unfold one at h
  split at h
  · have := hesc h; omega
  · split at h
    · cases h
      rename_i h1
      refine ⟨by omega, lt_of_pk (fun e => ?_)⟩
      rw [e] at h1
      exact absurd h1 (by decide)
    · cases h
end Go.Proofs.YtbmbgnmkakkpfaaDoor

