/-
  Carried over from another seat of ours (MA).
-/
import Derived.Test.YtmohehfkbhllpaaGreatKE
import Derived.Test.YtmohehfkbhllpaaGreatLD
import Derived.Test.YtmohehfkbhllpaaGreatBS
import Derived.Test.YtmohehfkbhllpaaGreatBM
import Derived.Test.YtmohehfkbhllpaaGreatAS
import Derived.Test.YtmohehfkbhllpaaGreatZ
import Derived.Test.YtmohehfkbhllpaaGreatBG
import Derived.Laws.BitsAllLaws
import Derived.Deep.RegionHeld3
import Derived.Defers
import Derived.Recover
import Derived.Laws.Pointers
set_option linter.unusedVariables false
set_option linter.unusedSimpArgs false
namespace Go.Proofs.YtmohehfkbhllpaaGreat
open Go.RowKit Go.Maps

def Byt (m : List Int) : Prop := ∀ x ∈ m, 0 ≤ x ∧ x < 256
theorem Byt.head {c : Int} {m : List Int} (h : Byt (c :: m)) : 0 ≤ c ∧ c < 256 := h c (List.mem_cons_self ..)
theorem bq_snoc (n x : Nat) : bq (n + 1) x = bq n (x / 256) ++ [((x % 256 : Nat) : Int)] := by
  unfold bq
  rw [List.range_succ, List.map_append]
  congr 1
  · apply List.map_congr_left
    intro q hq
    have hq' := List.mem_range.1 hq
    congr 2
    rw [show n + 1 - 1 - q = (n - 1 - q) + 1 by omega, Nat.pow_succ, Nat.mul_comm, ← Nat.div_div_eq_div_mul]
  · simp
theorem bq_be : ∀ (n : Nat) (l : List Int), l.length = n → Byt l → bq n (be l) = l
  | 0, l, hl, hb => by rw [List.eq_nil_of_length_eq_zero hl]; rfl
  | n + 1, l, hl, hb => by
    obtain ⟨l', c, rfl⟩ : ∃ l' c, l = l' ++ [c] := ⟨l.dropLast, l.getLast (fun e => by rw [e] at hl; simp at hl), (List.dropLast_concat_getLast _).symm⟩
    have hc := hb c (by simp)
    rw [be_snoc, bq_snoc, show (be l' * 256 + c.toNat) / 256 = be l' by omega, show (be l' * 256 + c.toNat) % 256 = c.toNat by omega, bq_be n l' (by simpa using hl) (fun x hx => hb x (by simp [hx])), Int.toNat_of_nonneg hc.1]
theorem cx_bq {m : List Int} (hb : Byt m) (h : ¬ m.length < 16) : m = bq 8 (be (m.take 8)) ++ bq 8 (be ((m.drop 8).take 8)) ++ m.drop 16 ∧ be (m.take 8) < 18446744073709551616 ∧ be ((m.drop 8).take 8) < 18446744073709551616 := by
  have h1 : (m.take 8).length = 8 := by rw [List.length_take]; omega
  have h2 : ((m.drop 8).take 8).length = 8 := by rw [List.length_take, List.length_drop]; omega
  have b1 : Byt (m.take 8) := fun x hx => hb x (List.mem_of_mem_take hx)
  have b2 : Byt ((m.drop 8).take 8) := fun x hx => hb x (List.mem_of_mem_drop (List.mem_of_mem_take hx))
  have l1 := be_lt _ b1
  have l2 := be_lt _ b2
  rw [h1] at l1
  rw [h2] at l2
  refine ⟨?_, l1, l2⟩
  rw [bq_be 8 _ h1 b1, bq_be 8 _ h2 b2, List.append_assoc]
  have e : m.drop 16 = (m.drop 8).drop 8 := by rw [List.drop_drop]
  rw [e, List.take_append_drop, List.take_append_drop]

/-! ### Names -/
/-- Names, each one once. -/
def OkN (l : List ByteArray) : Prop := ∀ i x, l[i]? = some x → isName x = true ∧ fnd l x 0 = some i
theorem OkN.nil : OkN [] := fun i x h => by simp at h
theorem OkN.snoc {l : List ByteArray} {s : ByteArray} (h : OkN l) (hs : isName s = true) (hn : fnd l s 0 = none) : OkN (l ++ [s]) := fun i x hx => by
  rw [fnd_snoc]
  by_cases hi : i < l.length
  · rw [List.getElem?_append_left hi] at hx
    obtain ⟨h1, h2⟩ := h i x hx
    exact ⟨h1, by rw [h2]; rfl⟩
  · rw [List.getElem?_append_right (by omega)] at hx
    obtain ⟨h3, h4⟩ : i - l.length = 0 ∧ x = s := by
      have hlt := (List.getElem?_eq_some_iff.1 hx).1
      simp at hlt
      have : i - l.length = 0 := by omega
      rw [this] at hx
      simp at hx
      exact ⟨this, hx.symm⟩
    subst h4
    refine ⟨hs, ?_⟩
    rw [hn]
    simp
    omega
theorem inN_a (c : Int) (h : inNa c = true) : inN c = true := by
  simp only [inNa, oth, inN, dig, low, Bool.or_eq_true, Bool.and_eq_true, decide_eq_true_eq, beq_iff_eq] at *
  omega
theorem atom_ok {s : ByteArray} (h : isName s = true) : FaultOk (.mk { k := 3, s := s } [] []) := by
  have hz := isName_size h
  simp only [isName, Bool.and_eq_true, decide_eq_true_eq] at h
  refine ok_atom s hz.1 hz.2 h.1.2 (fun j hj => inN_a _ ?_)
  have := h.2
  unfold allN at this
  rw [List.all_eq_true] at this
  exact this j (List.mem_range.2 hj)
end Go.Proofs.YtmohehfkbhllpaaGreat

