/-
  The reference's decimal digits, and its texts of tokens.
-/
import Derived.Test.YtnojhboflegkdaaDoorAB
import Derived.Test.YtnojhboflegkdaaDoorAD
set_option linter.unusedVariables false
set_option linter.unusedSimpArgs false
namespace Go.Proofs.YtnojhboflegkdaaDoor
open Go.RowKit Go.Maps

theorem sb_cons (c : Int) (l : List Int) : sb [c] ++ sb l = sb (c :: l) := by
  apply ByteArray.ext
  rw [ByteArray.data_append]
  simp [sb]
theorem sb_dd (n : Nat) : sb (dd n) = ⟨(Lib.decDigits n).toArray⟩ := by
  apply ByteArray.ext
  simp [sb, dd, Function.comp_def]
/-- The digits that are there, and the number that is left. -/
def Dg (N m : Nat) (l : List Int) : Prop := (l = [] ∧ m = N) ∨ (l ≠ [] ∧ ((m = 0 ∧ l = dd N) ∨ (0 < m ∧ dd N = dd m ++ l)))
theorem Dg.step {N m : Nat} {l : List Int} (h : Dg N m l) (hc : l = [] ∨ 0 < m) : Dg N (m / 10) ((48 + ((m % 10 : Nat) : Int)) :: l) := by
  right
  refine ⟨by simp, ?_⟩
  have key : ∀ q : Nat, (q < 10 → dd q = [48 + ((q % 10 : Nat) : Int)]) ∧ (¬ q < 10 → dd q = dd (q / 10) ++ [48 + ((q % 10 : Nat) : Int)]) := fun q => ⟨fun h => by rw [dd_small h, Nat.mod_eq_of_lt h], fun h => dd_big h⟩
  rcases h with ⟨rfl, rfl⟩ | ⟨hl, ⟨hm, _⟩ | ⟨hm, he⟩⟩
  · by_cases h10 : m < 10
    · exact .inl ⟨by omega, ((key m).1 h10).symm⟩
    · exact .inr ⟨by omega, (key m).2 h10⟩
  · rcases hc with hc | hc
    · exact absurd hc hl
    · omega
  · by_cases h10 : m < 10
    · exact .inl ⟨by omega, by rw [he, (key m).1 h10]; rfl⟩
    · exact .inr ⟨by omega, by rw [he, (key m).2 h10, List.append_assoc]; rfl⟩
theorem Dg.len {N m : Nat} {l : List Int} (h : Dg N m l) (hN : N < 10 ^ 19) : l.length ≤ 19 := by
  have hd := dd_len 18 N hN
  rcases h with ⟨rfl, _⟩ | ⟨_, ⟨_, rfl⟩ | ⟨_, he⟩⟩
  · simp
  · exact hd
  · rw [he] at hd; simp at hd; omega

set_option maxRecDepth 20000 in
set_option maxHeartbeats 2000000 in
theorem digits_r (W : World) (N : Nat) (hN : (N : Int) ≤ 9223372036854775807) : Calls Tryd.prog 25 #[.int .i64 (N : Int)] W fun e w' => e = .returned (.string (sb (dd N))) ∧ Gr (fun _ => False) W w' := by
  have hNp : Hid (N < 10 ^ 19) := by show N < 10 ^ 19; omega
  obtain ⟨r, hr⟩ : ∃ r, sb (dd N) = r := ⟨_, rfl⟩
  rw [hr]
  have Hr := Lib.hid hr
  clear hr
  go_enter Tryd.func25, Tryd.ntmps25
  go_wp2_with fail
  go_loopw [0, 3] (fun u v wr => ∃ (m : Nat) (l : List Int) (t : ByteArray), (m : Int) ≤ 9223372036854775807 ∧ u = .int .i64 (m : Int) ∧ v = .string t ∧ Hid (t = sb l) ∧ Hid (Dg N m l) ∧ Hid (Gr (fun _ => False) W wr)) (fun u v _ => (intOf u).toNat + (match v with | .string t => if t.size = 0 then 1 else 0 | _ => 0))
  case atStart => exact ⟨N, [], e0, hN, rfl, rfl, rfl, .inl ⟨rfl, rfl⟩, Gr.refl _ _⟩
  case round =>
    obtain ⟨m, l, t, hm, rfl, rfl, Ht, Hd, hg⟩ := hrel
    have hm0 : (0 : Int) ≤ (m : Int) := by omega
    have hts : t.size = l.length := by rw [Ht.out, sb_size]
    have hll := Hd.out.len hNp.out
    by_cases hgo : l = [] ∨ 0 < m
    · have Hn := Lib.hid (Hd.out.step hgo)
      obtain ⟨x, hx⟩ : ∃ x, m % 10 = x := ⟨_, rfl⟩
      obtain ⟨y, hy⟩ : ∃ y, m / 10 = y := ⟨_, rfl⟩
      have q1 : Int.tmod (m : Int) 10 = (x : Int) := by rw [Int.tmod_eq_emod_of_nonneg hm0]; omega
      have q2 : (m : Int) % 10 = (x : Int) := by omega
      have q3 : Int.tdiv (m : Int) 10 = (y : Int) := by rw [Int.tdiv_eq_ediv_of_nonneg hm0]; omega
      have q4 : (m : Int) / 10 = (y : Int) := by omega
      have hy1 : (y : Int) ≤ 9223372036854775807 := by omega
      rw [hx, hy] at Hn
      obtain ⟨d, hd⟩ : ∃ d : Int, 48 + (x : Int) = d := ⟨_, rfl⟩
      have hd0 : 48 ≤ d := by omega
      have hd1 : d ≤ 57 := by omega
      have hw1 : IntKind.u8.wrap d = d := by rw [IntKind.wrap_u8]; omega
      have hw2 : d % 256 = d := by omega
      rw [hd] at Hn
      have hcv : ∀ w : World, (convert 31 9 (.slice (some ⟨w.heap.size, 0, none⟩) 1 1)).run Tryd.prog (w.alloc (.cells #[.int .u8 d] 5)) = .ok (.string (sb [d])) (w.alloc (.cells #[.int .u8 d] 5)) := fun w => conv_sb (Ob.lit 0 w [d] (by simp) (Nat.zero_le _) #[.int .u8 d] rfl 1 rfl).sb
      have hcv2 := hcv wr
      have hs1 : (sb [d]).size = 1 := sb_size _
      have hsc : Hid (∀ t', t' = sb [d] ++ t → t' = sb (d :: l)) := Lib.hid (fun t' e => by rw [e, Ht.out, sb_cons])
      generalize sb [d] = A at hcv2 hs1 hsc
      have hs1I : (A.size : Int) = 1 := by omega
      have hmeas : Hid (y + 0 < m + (if t.size = 0 then 1 else 0)) := by
        show _ < _
        rw [hts]
        rcases hgo with rfl | h
        · simp; omega
        · split <;> omega
      have hlI : (l.length : Int) ≤ 19 := by omega
      have htI : (t.size : Int) ≤ 19 := by omega
      have hdx : 48 + (x : Int) = d := hd
      clear hcv hd hx hy
      have key : (t.toList.isEmpty = true ∧ t.toList = []) ∨ (t.toList.isEmpty = false ∧ 0 < (m : Int)) := by
        rcases Nat.eq_zero_or_pos t.size with h | h
        · left
          have : t = e0 := by
            apply ByteArray.ext
            exact Array.eq_empty_of_size_eq_zero h
          subst this
          exact ⟨by rw [ByteArray.toList_eq]; rfl, by rw [ByteArray.toList_eq]⟩
        · right
          refine ⟨ne_nil h, ?_⟩
          rcases hgo with rfl | h2
          · rw [List.length_nil] at hts; omega
          · omega
      clear hgo hll
      rcases key with ⟨k1, k1'⟩ | ⟨k1, k2⟩
      all_goals
        go_wp2_with fail
        refine ⟨⟨y, d :: l, A ++ t, hy1, rfl, rfl, hsc.out _ rfl, Hn, hg.out.trans (Gr.alloc _ _ _)⟩, ?_⟩
        have hne : (A ++ t).size ≠ 0 := by rw [ByteArray.size_append]; omega
        have := hmeas.out
        simp only [intOf, Int.toNat_natCast, if_neg hne]
        exact this
    · have hnil : l ≠ [] := fun e => hgo (.inl e)
      have hm00 : m = 0 := by omega
      have e : r = t := by
        rcases Hd.out with ⟨h, _⟩ | ⟨_, ⟨_, h⟩ | ⟨h, _⟩⟩
        · exact absurd h hnil
        · rw [← Hr.out, Ht.out, h]
        · omega
      subst e
      subst hm00
      have k1 : r.toList.isEmpty = false := ne_nil (by rw [hts]; exact List.length_pos_iff.2 hnil)
      clear hgo hts hll hnil
      go_wp2_with fail
      go_ret
      exact ⟨rfl, hg.out⟩
end Go.Proofs.YtnojhboflegkdaaDoor
