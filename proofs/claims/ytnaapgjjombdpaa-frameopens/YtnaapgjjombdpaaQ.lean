/-
  A frame's bytes and the frame that they say; bytes that end with their sum.
-/
import Derived.Test.YtnaapgjjombdpaaN
namespace Go.Proofs.Ytnaapgjjombdpaa

theorem xor_add (a b : Nat) (ha : a < 256) : a ^^^ (b <<< 8) = a + b * 256 := by
  have h1 : a ^^^ (b <<< 8) = b <<< 8 ||| a := by
    apply Nat.eq_of_testBit_eq
    intro i
    rw [Nat.testBit_xor, Nat.testBit_or, Nat.testBit_shiftLeft]
    by_cases h : 8 ≤ i
    · have : a.testBit i = false := Nat.testBit_lt_two_pow (Nat.lt_of_lt_of_le ha (show 2 ^ 8 ≤ 2 ^ i from Nat.pow_le_pow_right (by decide) h))
      rw [this]
      simp
    · simp [h]
  rw [h1, ← Nat.shiftLeft_add_eq_or_of_lt (show a < 2 ^ 8 from ha), Nat.shiftLeft_eq]
  omega
theorem le4 (a b c d : Nat) (ha : a < 256) (hb : b < 256) (hc : c < 256) : le [a, b, c, d] = a + b * 256 + c * 65536 + d * 16777216 := by
  have e : le [a, b, c, d] = a ^^^ ((b ^^^ ((c ^^^ (d <<< 8)) <<< 8)) <<< 8) := by simp [le]
  rw [e, xor_add c d hc, xor_add b _ hb, xor_add a _ ha]
  omega

/-- Bytes parted: eight ahead, four behind. -/
abbrev ent (x0 x1 x2 x3 x4 x5 x6 x7 : Nat) (m : List Nat) (y0 y1 y2 y3 : Nat) : List Nat := (x0 :: x1 :: x2 :: x3 :: x4 :: x5 :: x6 :: x7 :: m) ++ [y0, y1, y2, y3]
section
variable (x0 x1 x2 x3 x4 x5 x6 x7 : Nat) (m : List Nat) (y0 y1 y2 y3 : Nat)
theorem ent_len : (ent x0 x1 x2 x3 x4 x5 x6 x7 m y0 y1 y2 y3).length = m.length + 12 := by simp
theorem ent_take : (ent x0 x1 x2 x3 x4 x5 x6 x7 m y0 y1 y2 y3).take (m.length + 8) = x0 :: x1 :: x2 :: x3 :: x4 :: x5 :: x6 :: x7 :: m := by
  have : m.length + 8 = (x0 :: x1 :: x2 :: x3 :: x4 :: x5 :: x6 :: x7 :: m).length := by simp
  rw [this, List.take_left]
theorem ent_num : num4 (ent x0 x1 x2 x3 x4 x5 x6 x7 m y0 y1 y2 y3) (m.length + 8) = y0 + y1 * 256 + y2 * 65536 + y3 * 16777216 := by
  have hl : (x0 :: x1 :: x2 :: x3 :: x4 :: x5 :: x6 :: x7 :: m).length = m.length + 8 := by simp
  have g : ∀ k, (ent x0 x1 x2 x3 x4 x5 x6 x7 m y0 y1 y2 y3).getD (m.length + 8 + k) 0 = [y0, y1, y2, y3].getD k 0 := by
    intro k
    rw [List.getD_eq_getElem?_getD, List.getElem?_append_right (by rw [hl]; omega), hl, List.getD_eq_getElem?_getD]
    congr 2
    omega
  have g0 := g 0
  rw [Nat.add_zero] at g0
  rw [num4, g0, g 1, g 2, g 3]
  rfl
theorem ent_body : body (ent x0 x1 x2 x3 x4 x5 x6 x7 m y0 y1 y2 y3) = m := by
  rw [body, ent_len, Nat.add_sub_cancel]
  show (List.drop 8 (x0 :: x1 :: x2 :: x3 :: x4 :: x5 :: x6 :: x7 :: (m ++ [y0, y1, y2, y3]))).take m.length = m
  simp
theorem ent_hi : hi4 (ent x0 x1 x2 x3 x4 x5 x6 x7 m y0 y1 y2 y3) 4 = x4 * 16777216 + x5 * 65536 + x6 * 256 + x7 := rfl
end
theorem ent_of (b : List Nat) (h : 12 ≤ b.length) : ∃ x0 x1 x2 x3 x4 x5 x6 x7 m y0 y1 y2 y3, b = ent x0 x1 x2 x3 x4 x5 x6 x7 m y0 y1 y2 y3 := by
  have tail : ∀ r : List Nat, 4 ≤ r.length → ∃ m y0 y1 y2 y3, r = m ++ [y0, y1, y2, y3] := by
    intro r hr
    have hd : (r.drop (r.length - 4)).length = 4 := by simp; omega
    match hq : r.drop (r.length - 4), hd with
    | [y0, y1, y2, y3], _ => exact ⟨r.take (r.length - 4), y0, y1, y2, y3, by rw [← hq]; exact (List.take_append_drop _ _).symm⟩
  match b, h with
  | x0 :: x1 :: x2 :: x3 :: x4 :: x5 :: x6 :: x7 :: r, h =>
    obtain ⟨m, y0, y1, y2, y3, rfl⟩ := tail r (by simp at h; omega)
    exact ⟨x0, x1, x2, x3, x4, x5, x6, x7, m, y0, y1, y2, y3, rfl⟩

theorem opn_ent (x0 x1 x2 x3 x4 x5 x6 x7 : Nat) (m : List Nat) (y0 y1 y2 y3 : Nat) : opn (ent x0 x1 x2 x3 x4 x5 x6 x7 m y0 y1 y2 y3) =
    if 1200 < m.length then 62 else if y0 + y1 * 256 + y2 * 65536 + y3 * 16777216 ≠ sum (x0 :: x1 :: x2 :: x3 :: x4 :: x5 :: x6 :: x7 :: m) then 64
    else if x0 ≠ 82 ∨ x1 ≠ 75 then 65 else chk (x2 : Nat) (x3 : Nat) ((x4 * 16777216 + x5 * 65536 + x6 * 256 + x7 : Nat) : Int) m.length := by
  rw [opn, ent_len, show m.length + 12 - 4 = m.length + 8 from rfl, show m.length + 12 - 12 = m.length from rfl, ent_take, ent_num, ent_hi, if_neg (by omega)]
  by_cases h : 1200 < m.length
  · rw [if_pos (by omega), if_pos h]
  · rw [if_neg (by omega), if_neg h]
    rfl
theorem wire_ent (f t bo : Nat) (l : List Nat) : wire f t bo l = ent 82 75 f t (bo / 16777216) (bo / 65536 % 256) (bo / 256 % 256) (bo % 256) l (sum (head f t bo ++ l) % 256) (sum (head f t bo ++ l) / 256 % 256) (sum (head f t bo ++ l) / 65536 % 256) (sum (head f t bo ++ l) / 16777216) := rfl
theorem sums_up (s : Nat) : s % 256 + s / 256 % 256 * 256 + s / 65536 % 256 * 65536 + s / 16777216 * 16777216 = s := by omega
theorem his_up (s : Nat) : s / 16777216 * 16777216 + s / 65536 % 256 * 65536 + s / 256 % 256 * 256 + s % 256 = s := by omega

/-- What is packed opens. -/
theorem opn_wire (f t bo : Nat) (l : List Nat) (h : chk f t bo l.length = 0) : opn (wire f t bo l) = 0 ∧ (wire f t bo l).getD 2 0 = f ∧ (wire f t bo l).getD 3 0 = t ∧ hi4 (wire f t bo l) 4 = bo ∧ body (wire f t bo l) = l ∧ (wire f t bo l).length = l.length + 12 := by
  have hl := (chk_zero h).2.2.2.2.2.2
  rw [wire_ent]
  refine ⟨?_, rfl, rfl, ?_, ent_body .., ent_len ..⟩
  · rw [opn_ent, if_neg (by omega), sums_up, his_up, if_neg (fun e => e rfl), if_neg (by decide)]
    exact h
  · rw [ent_hi, his_up]
/-- What opens packs. -/
theorem wire_opn (b : List Nat) (hb : ∀ x ∈ b, x < 256) (h : opn b = 0) :
    wire (b.getD 2 0) (b.getD 3 0) (hi4 b 4) (body b) = b ∧ chk (b.getD 2 0 : Nat) (b.getD 3 0 : Nat) (hi4 b 4 : Nat) (body b).length = 0 ∧ hi4 b 4 < 4294967296 := by
  have h12 : 12 ≤ b.length := by
    by_cases h1 : b.length < 12
    · rw [opn, if_pos h1] at h; cases h
    · exact Nat.le_of_not_lt h1
  obtain ⟨x0, x1, x2, x3, x4, x5, x6, x7, m, y0, y1, y2, y3, rfl⟩ := ent_of b h12
  have q4 := hb x4 (by simp)
  have q5 := hb x5 (by simp)
  have q6 := hb x6 (by simp)
  have q7 := hb x7 (by simp)
  have r0 := hb y0 (by simp)
  have r1 := hb y1 (by simp)
  have r2 := hb y2 (by simp)
  have r3 := hb y3 (by simp)
  clear hb h12
  rw [opn_ent] at h
  rw [ent_body, ent_hi]
  split at h
  · cases h
  · split at h
    · cases h
    · split at h
      · cases h
      · rename_i g1 g2 g3
        have e0 : x0 = 82 := Classical.byContradiction fun e => g3 (.inl e)
        have e1 : x1 = 75 := Classical.byContradiction fun e => g3 (.inr e)
        subst e0 e1
        have es := Classical.byContradiction fun e => g2 e
        refine ⟨?_, h, by omega⟩
        have c4 : (x4 * 16777216 + x5 * 65536 + x6 * 256 + x7) / 16777216 = x4 := by omega
        have c5 : (x4 * 16777216 + x5 * 65536 + x6 * 256 + x7) / 65536 % 256 = x5 := by omega
        have c6 : (x4 * 16777216 + x5 * 65536 + x6 * 256 + x7) / 256 % 256 = x6 := by omega
        have c7 : (x4 * 16777216 + x5 * 65536 + x6 * 256 + x7) % 256 = x7 := by omega
        have eh : head x2 x3 (x4 * 16777216 + x5 * 65536 + x6 * 256 + x7) ++ m = 82 :: 75 :: x2 :: x3 :: x4 :: x5 :: x6 :: x7 :: m := by
          rw [head, c4, c5, c6, c7]; rfl
        show wire x2 x3 _ m = _
        rw [wire, eh, ← es, low4]
        have d0 : (y0 + y1 * 256 + y2 * 65536 + y3 * 16777216) % 256 = y0 := by omega
        have d1 : (y0 + y1 * 256 + y2 * 65536 + y3 * 16777216) / 256 % 256 = y1 := by omega
        have d2 : (y0 + y1 * 256 + y2 * 65536 + y3 * 16777216) / 65536 % 256 = y2 := by omega
        have d3 : (y0 + y1 * 256 + y2 * 65536 + y3 * 16777216) / 16777216 = y3 := by omega
        rw [d0, d1, d2, d3]
/-- What opens, changed within 32 bits in a row, is refused by its sum. -/
theorem opn_burst (a b : List Nat) (d k : Nat) (ha : ∀ x ∈ a, x < 256) (hb : ∀ x ∈ b, x < 256) (h : opn a = 0) (hl : b.length = a.length) (hd : d < 4294967296) (hd0 : d ≠ 0) (hk : k ≤ 8 * a.length) (hx : le b = le a ^^^ (d <<< k)) : opn b = 64 := by
  have hne := crc_burst a b 4294967295 d k hl hd hd0 hk hx
  have h12 : 12 ≤ a.length := by
    by_cases h1 : a.length < 12
    · rw [opn, if_pos h1] at h; cases h
    · exact Nat.le_of_not_lt h1
  obtain ⟨x0, x1, x2, x3, x4, x5, x6, x7, m, y0, y1, y2, y3, rfl⟩ := ent_of a h12
  obtain ⟨u0, u1, u2, u3, u4, u5, u6, u7, n, v0, v1, v2, v3, rfl⟩ := ent_of b (by omega)
  rw [ent_len, ent_len] at hl
  rw [opn_ent] at h ⊢
  split at h
  · cases h
  · rename_i g1
    split at h
    · cases h
    · rename_i g2
      have es := Classical.byContradiction fun e => g2 e
      rw [if_neg (by omega), if_pos]
      intro ev
      refine hne ?_
      have r1 := hb v0 (by simp)
      have r2 := hb v1 (by simp)
      have r3 := hb v2 (by simp)
      have r4 := hb v3 (by simp)
      have s1 := ha y0 (by simp)
      have s2 := ha y1 (by simp)
      have s3 := ha y2 (by simp)
      have s4 := ha y3 (by simp)
      have e1 := (sum_whole (x0 :: x1 :: x2 :: x3 :: x4 :: x5 :: x6 :: x7 :: m) [y0, y1, y2, y3] rfl (by rw [le4 _ _ _ _ s1 s2 s3]; omega) (fun x hx => ha x (List.mem_append_left _ hx))).1 (by rw [le4 _ _ _ _ s1 s2 s3]; exact es)
      have e2 := (sum_whole (u0 :: u1 :: u2 :: u3 :: u4 :: u5 :: u6 :: u7 :: n) [v0, v1, v2, v3] rfl (by rw [le4 _ _ _ _ r1 r2 r3]; omega) (fun x hx => hb x (List.mem_append_left _ hx))).1 (by rw [le4 _ _ _ _ r1 r2 r3]; exact ev)
      exact e2.trans e1.symm
end Go.Proofs.Ytnaapgjjombdpaa
