/-
  Of numbers that go round: which is less, windows, orders; sums of rows. No program.
-/
import Derived.Test.YtanhigaingjalaaB
set_option linter.unusedSimpArgs false
set_option linter.unusedVariables false
namespace Go.Proofs.Ytanhigaingjalaa

/-! ### Less -/
theorem ah_add (a b k : Int) : ah ((a + k) % 4294967296) ((b + k) % 4294967296) = ah a b := by unfold ah; omega
theorem ls_add (a b k : Int) : ls ((a + k) % 4294967296) ((b + k) % 4294967296) = ls a b := by unfold ls; rw [ah_add]
theorem mx_add (a b k : Int) (ha : Rg a) (hb : Rg b) : mx ((a + k) % 4294967296) ((b + k) % 4294967296) = (mx a b + k) % 4294967296 := by
  unfold mx
  rw [ls_add]
  rcases ls a b with _ | _ <;> simp
theorem mx_rg (a b : Int) (ha : Rg a) (hb : Rg b) : Rg (mx a b) := by
  unfold mx
  split
  · exact hb
  · exact ha
theorem ls_self (a : Int) : ls a a = false := by unfold ls ah; simp
theorem ls_half (a b : Int) (h : (a - b) % 4294967296 = 2147483648) : ls a b = false ∧ ls b a = false := by
  have h1 : ah a b = 2147483648 := by unfold ah; omega
  have h2 : ah b a = 2147483648 := h
  simp [ls, h1, h2]
theorem ls_one (a b : Int) (ha : Rg a) (hb : Rg b) (h0 : a ≠ b) (h : (a - b) % 4294967296 ≠ 2147483648) : (ls a b != ls b a) = true := by
  have h1 : 0 < ah a b := by unfold ah; omega
  have h2 : 0 < ah b a := by unfold ah; omega
  have h3 : ah a b + ah b a = 4294967296 := by unfold ah; omega
  have h4 : ah b a ≠ 2147483648 := h
  by_cases h5 : ah a b < 2147483648
  · have h6 : ¬ ah b a < 2147483648 := by omega
    simp [ls, h1, h2, h5, h6]
  · have h6 : ah b a < 2147483648 := by omega
    simp [ls, h1, h2, h5, h6]
theorem ls_win (base n a b : Int) (hn : n ≤ 2147483648) (ha : ah base a < n) (hb : ah base b < n) : ls a b = decide (ah base a < ah base b) := by
  have h1 := ah_lo base a
  have h2 := ah_lo base b
  by_cases h : ah base a < ah base b
  · have e : ah a b = ah base b - ah base a := by unfold ah at *; omega
    have q1 : 0 < ah a b := by omega
    have q2 : ah a b < 2147483648 := by omega
    simp [ls, h, q1, q2]
  · by_cases h' : ah base a = ah base b
    · have e : ah a b = 0 := by unfold ah at *; omega
      simp [ls, h, e]
    · have e : ah a b = 4294967296 + ah base b - ah base a := by unfold ah at *; omega
      have q2 : ¬ ah a b < 2147483648 := by omega
      simp [ls, h, q2]
theorem ah_inj (base a b : Int) (ha : Rg a) (hb : Rg b) (h : ah base a = ah base b) : a = b := by unfold ah at h; omega

/-! ### Orders -/
/-- By how far they lie ahead of base, the nearest first. -/
abbrev So (base : Int) (l : List Int) : Prop := l.Pairwise fun x y => ah base x ≤ ah base y
theorem so_one {base : Int} {l m : List Int} (hl : ∀ x ∈ l, Rg x) (h1 : So base l) (h2 : So base m) (p : l.Perm m) : l = m :=
  List.Perm.eq_of_pairwise (le := fun x y => ah base x ≤ ah base y) (fun a b ha hb h1 h2 => ah_inj base a b (hl a ha) (hl b (p.symm.subset hb)) (by omega)) h1 h2 p

/-! ### Sums -/
def sm (f : Int → Int) : List Int → Int
  | [] => 0
  | x :: l => f x + sm f l
theorem sm_append (f : Int → Int) (l m : List Int) : sm f (l ++ m) = sm f l + sm f m := by
  induction l with
  | nil => simp [sm]
  | cons x l ih => simp [sm, ih]; omega
theorem sm_perm (f : Int → Int) {l m : List Int} (p : l.Perm m) : sm f l = sm f m := by
  induction p with
  | nil => rfl
  | cons x _ ih => simp [sm, ih]
  | swap x y l => simp [sm]; omega
  | trans _ _ ih1 ih2 => exact ih1.trans ih2
theorem sm_take (f : Int → Int) {l : List Int} {k : Nat} (h : k < l.length) : sm f (l.take (k + 1)) = sm f (l.take k) + f (l.getD k 0) := by
  rw [take_succ h, sm_append]; simp [sm]
/-- What a row's sum is ahead of another's, up to place k. -/
def df (f : Int → Int) (l m : List Int) (k : Nat) : Int := (sm f (l.take k) - sm f (m.take k)) % 18446744073709551616
theorem df_zero (f : Int → Int) (l m : List Int) : df f l m 0 = 0 := by simp [df, sm]
theorem df_all (f : Int → Int) {l m : List Int} (p : l.Perm m) (k : Nat) (hk : k = m.length) : df f l m k = 0 := by
  subst hk
  unfold df
  rw [List.take_length, ← p.length_eq, List.take_length, sm_perm f p]
  omega
theorem df_step (f : Int → Int) {l m : List Int} {k : Nat} (h1 : k < l.length) (h2 : k < m.length) :
    ((df f l m k + f (l.getD k 0)) % 18446744073709551616 - f (m.getD k 0)) % 18446744073709551616 = df f l m (k + 1) := by
  unfold df
  rw [sm_take f h1, sm_take f h2]
  generalize f (l.getD k 0) = x
  generalize f (m.getD k 0) = y
  omega
theorem df_rg (f : Int → Int) (l m : List Int) (k : Nat) : 0 ≤ df f l m k ∧ df f l m k < 18446744073709551616 := by unfold df; omega
theorem so_get {base : Int} {l : List Int} (h : So base l) {i j : Nat} (hij : i < j) (hj : j < l.length) : ah base (l.getD i 0) ≤ ah base (l.getD j 0) := by
  have := List.pairwise_iff_getElem.1 h i j (by omega) hj hij
  simpa [List.getD_eq_getElem?_getD, List.getElem?_eq_getElem hj, List.getElem?_eq_getElem (show i < l.length by omega)] using this

/-! ### The nearest one taken out -/
theorem erase_perm (l : List Int) (k : Nat) (h : k < l.length) : (l.getD k 0 :: (l.take k ++ l.drop (k + 1))).Perm l := by
  have e : l = l.take k ++ l.getD k 0 :: l.drop (k + 1) := by
    conv => lhs; rw [← List.take_append_drop k l]
    congr 1
    rw [List.drop_eq_getElem_cons h, List.getD_eq_getElem?_getD, List.getElem?_eq_getElem h]; rfl
  conv => rhs; rw [e]
  exact List.perm_middle.symm
theorem sel_step {base : Int} {l out left : List Int} {k : Nat} (hk : k < left.length) (hp : (out ++ left).Perm l) (hs : So base out) (hle : ∀ x ∈ out, ∀ y ∈ left, ah base x ≤ ah base y) (hm : ∀ j, j < left.length → ah base (left.getD k 0) ≤ ah base (left.getD j 0)) :
    ((out ++ [left.getD k 0]) ++ (left.take k ++ left.drop (k + 1))).Perm l ∧ So base (out ++ [left.getD k 0]) ∧ ∀ x ∈ out ++ [left.getD k 0], ∀ y ∈ left.take k ++ left.drop (k + 1), ah base x ≤ ah base y := by
  have hmem : left.getD k 0 ∈ left := by rw [List.getD_eq_getElem?_getD, List.getElem?_eq_getElem hk]; exact List.getElem_mem hk
  have hin : ∀ y ∈ left.take k ++ left.drop (k + 1), y ∈ left := fun y hy => (List.mem_append.1 hy).elim List.mem_of_mem_take List.mem_of_mem_drop
  have hmin : ∀ y ∈ left, ah base (left.getD k 0) ≤ ah base y := by
    intro y hy
    obtain ⟨j, hj, rfl⟩ := List.getElem_of_mem hy
    have := hm j hj
    rwa [List.getD_eq_getElem?_getD (l := left) (i := j), List.getElem?_eq_getElem hj] at this
  refine ⟨?_, ?_, ?_⟩
  · rw [List.append_assoc]
    exact ((erase_perm left k hk).append_left out).trans hp
  · refine List.pairwise_append.2 ⟨hs, by simp, fun x hx y hy => ?_⟩
    obtain rfl : y = left.getD k 0 := by simpa using hy
    exact hle x hx _ hmem
  · intro x hx y hy
    rcases List.mem_append.1 hx with h | h
    · exact hle x h y (hin y hy)
    · obtain rfl : x = left.getD k 0 := by simpa using h
      exact hmin y (hin y hy)
end Go.Proofs.Ytanhigaingjalaa
