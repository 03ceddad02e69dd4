/-
  The reference's small steps: which bytes lie between two, names, digits of base 16; what stands between tokens.
-/
import Derived.Test.YtnojhboflegkdaaDoorS
set_option linter.unusedVariables false
set_option linter.unusedSimpArgs false
namespace Go.Proofs.YtnojhboflegkdaaDoor
open Go.RowKit Go.Maps

def btw (c a b : Int) : Bool := decide (a ≤ c) && decide (c ≤ b)
theorem between_c (c a b : Int) (w : World) : Calls Tryd.prog 26 #[.int .u8 c, .int .u8 a, .int .u8 b] w fun e w' => e = .returned (.bool (btw c a b)) ∧ w = w' := by
  by_cases h1 : a ≤ c <;> by_cases h2 : c ≤ b <;> simp only [btw, h1, h2, decide_true, decide_false, Bool.and_true, Bool.and_false, Bool.false_and, Bool.true_and]
  all_goals (go_enter Tryd.func26, Tryd.ntmps26; go_wp2; go_ret; exact ⟨rfl, rfl⟩)
theorem btw_dig (c : Int) : btw c 48 57 = dig c := rfl
theorem btw_low (c : Int) : btw c 97 122 = low c := rfl
theorem btw_shw (c : Int) : btw c 32 126 = shw c := rfl
set_option maxHeartbeats 800000 in
theorem namer_c (c : Int) (w : World) : Calls Tryd.prog 38 #[.int .u8 c] w fun e w' => e = .returned (.bool (inN c)) ∧ w = w' := by
  have e : inN c = (btw c 97 122 || btw c 65 90 || btw c 48 57 || (c == 95)) := by
    simp only [inN, low, vab, dig, btw]
    generalize (decide (97 ≤ c) && decide (c ≤ 122)) = p1
    generalize (decide (65 ≤ c) && decide (c ≤ 90)) = p2
    generalize (decide (48 ≤ c) && decide (c ≤ 57)) = p3
    generalize (c == 95) = p4
    cases p1 <;> cases p2 <;> cases p3 <;> cases p4 <;> rfl
  rw [e]
  have b1 := fun w => between_c c 97 122 w
  have b2 := fun w => between_c c 65 90 w
  have b3 := fun w => between_c c 48 57 w
  generalize btw c 97 122 = p1 at b1 ⊢
  generalize btw c 65 90 = p2 at b2 ⊢
  generalize btw c 48 57 = p3 at b3 ⊢
  clear e
  cases p1
  · cases p2
    · cases p3
      · cases h4 : (c == 95)
        all_goals
          go_enter Tryd.func38, Tryd.ntmps38
          go_wp2_with fail
          refine (b1 _).mono ?_
          rintro e w' ⟨rfl, rfl⟩
          go_wp2_with fail
          refine (b2 _).mono ?_
          rintro e w' ⟨rfl, rfl⟩
          go_wp2_with fail
          refine (b3 _).mono ?_
          rintro e w' ⟨rfl, rfl⟩
          go_wp2_with fail
          go_ret
          exact ⟨rfl, rfl⟩
      · go_enter Tryd.func38, Tryd.ntmps38
        go_wp2_with fail
        refine (b1 _).mono ?_
        rintro e w' ⟨rfl, rfl⟩
        go_wp2_with fail
        refine (b2 _).mono ?_
        rintro e w' ⟨rfl, rfl⟩
        go_wp2_with fail
        refine (b3 _).mono ?_
        rintro e w' ⟨rfl, rfl⟩
        go_wp2_with fail
        go_ret
        exact ⟨by simp, rfl⟩
    · go_enter Tryd.func38, Tryd.ntmps38
      go_wp2_with fail
      refine (b1 _).mono ?_
      rintro e w' ⟨rfl, rfl⟩
      go_wp2_with fail
      refine (b2 _).mono ?_
      rintro e w' ⟨rfl, rfl⟩
      go_wp2_with fail
      go_ret
      exact ⟨by simp, rfl⟩
  · go_enter Tryd.func38, Tryd.ntmps38
    go_wp2_with fail
    refine (b1 _).mono ?_
    rintro e w' ⟨rfl, rfl⟩
    go_wp2_with fail
    go_ret
    exact ⟨by simp, rfl⟩
theorem digitr_c (c : Int) (h0 : 0 ≤ c) (h1 : c < 256) (w : World) : Calls Tryd.prog 46 #[.int .u8 c] w fun e w' => e = .returned (.int .i64 (hexv c)) ∧ w = w' := by
  have b1 := fun w => between_c c 48 57 w
  have b2 := fun w => between_c c 97 102 w
  by_cases h2 : 48 ≤ c ∧ c ≤ 57
  · rw [show hexv c = c - 48 by rw [hexv, if_pos h2]]
    rw [show btw c 48 57 = true by simp [btw, h2]] at b1
    obtain ⟨k1, k2⟩ := h2
    go_enter Tryd.func46, Tryd.ntmps46
    go_wp2_with fail
    refine (b1 _).mono ?_
    rintro e w' ⟨rfl, rfl⟩
    go_wp2_with fail
    go_ret
    exact ⟨rfl, rfl⟩
  rw [show btw c 48 57 = false by simp [btw]; omega] at b1
  by_cases h3 : 97 ≤ c ∧ c ≤ 102
  · rw [show hexv c = c - 97 + 10 by rw [hexv, if_neg h2, if_pos h3]; omega]
    rw [show btw c 97 102 = true by simp [btw, h3]] at b2
    obtain ⟨k1, k2⟩ := h3
    clear h2
    go_enter Tryd.func46, Tryd.ntmps46
    go_wp2_with fail
    refine (b1 _).mono ?_
    rintro e w' ⟨rfl, rfl⟩
    go_wp2_with fail
    refine (b2 _).mono ?_
    rintro e w' ⟨rfl, rfl⟩
    go_wp2_with fail
    go_ret
    exact ⟨rfl, rfl⟩
  · rw [show hexv c = -1 by rw [hexv, if_neg h2, if_neg h3]]
    rw [show btw c 97 102 = false by simp [btw]; omega] at b2
    clear h2 h3
    go_enter Tryd.func46, Tryd.ntmps46
    go_wp2_with fail
    refine (b1 _).mono ?_
    rintro e w' ⟨rfl, rfl⟩
    go_wp2_with fail
    refine (b2 _).mono ?_
    rintro e w' ⟨rfl, rfl⟩
    go_wp2_with fail
    go_ret
    exact ⟨rfl, rfl⟩

theorem skp_dd (s : ByteArray) (i : Nat) (h : i < s.size) (n : Bool) : skp s i n = if bt s i = 10 then skp s (i + 1) false else if bt s i = 37 then skp s (i + 1) true else if n = false ∧ blk (bt s i) = false then i else skp s (i + 1) n := by
  rw [skp, dif_pos h]
theorem skp_oo (s : ByteArray) (i : Nat) (n : Bool) (h : s.size ≤ i) : skp s i n = i := by rw [skp, dif_neg (by omega)]
set_option maxRecDepth 20000 in
set_option maxHeartbeats 2000000 in
theorem gap_c (W : World) (s : ByteArray) (i : Nat) (hs : s.size ≤ 65536) (hi : i ≤ s.size) : Calls Tryd.prog 20 #[.string s, .int .i64 (i : Int)] W fun e w' => e = .returned (.int .i64 ((skp s i false : Nat) : Int)) ∧ Gr (fun _ => False) W w' := by
  have hsI : (s.size : Int) ≤ 65536 := by omega
  clear hs
  obtain ⟨r, hr⟩ : ∃ r, skp s i false = r := ⟨_, rfl⟩
  rw [hr]
  have Hr := Lib.hid hr
  clear hr
  go_enter Tryd.func20, Tryd.ntmps20
  go_wp2_with fail
  go_loopw [1] (fun u wr => ∃ k : Nat, k ≤ s.size ∧ u = .int .i64 (k : Int) ∧ Hid (r = skp s k false) ∧ Hid (Gr (fun _ => False) W wr)) (fun u _ => s.size - (intOf u).toNat)
  case atStart => exact ⟨i, hi, rfl, Hr.out.symm, Gr.refl _ _⟩
  case round =>
    obtain ⟨k, hk, rfl, Hk, hgr⟩ := hrel
    by_cases hlt : k < s.size
    · have hkI : (k : Int) < (s.size : Int) := by omega
      have hx := ix s k hlt
      have hd := skp_dd s k hlt
      obtain ⟨c, hc⟩ : ∃ c, bt s k = c := ⟨_, rfl⟩
      rw [hc] at hx hd
      have Hd := Lib.hid hd
      clear hd hc
      by_cases h1 : c = 37
      · have Hn : Hid (r = skp s (k + 1) true) := by
          show r = _
          rw [Hk.out, Hd.out false, h1]; rfl
        subst h1
        have hx0 := hx
        go_wp2_with fail
        go_loopw [1] (fun u wr => ∃ m : Nat, k ≤ m ∧ m ≤ s.size ∧ u = .int .i64 (m : Int) ∧ Hid (m = k ∨ (k < m ∧ r = skp s m true)) ∧ Hid (Gr (fun _ => False) W wr)) (fun u _ => s.size - (intOf u).toNat)
        case atStart => exact ⟨k, Nat.le_refl _, hk, rfl, .inl rfl, hgr⟩
        case round =>
          obtain ⟨m, hkm, hm, rfl, Hm, hgr2⟩ := hrel
          by_cases hmlt : m < s.size
          · have hmI : (m : Int) < (s.size : Int) := by omega
            have hy := ix s m hmlt
            have hdm := skp_dd s m hmlt
            obtain ⟨d, hdd⟩ : ∃ d, bt s m = d := ⟨_, rfl⟩
            rw [hdd] at hy hdm
            by_cases h10 : d = 10
            · have hfin : Hid (k < m ∧ r = skp s m false) := by
                rcases Hm.out with e | ⟨e1, e2⟩
                · exfalso
                  subst e
                  have := (hx W).symm.trans (hy W)
                  simp at this
                  omega
                · refine ⟨e1, ?_⟩
                  rw [e2, hdm true, hdm false, h10]; rfl
              subst h10
              clear hdm hdd hx hx0
              go_wp2_with fail
              exact ⟨⟨m, hm, rfl, hfin.out.2, hgr2⟩, by have := hfin.out.1; simp [intOf]; omega⟩
            · have hn : Hid (m + 1 = k ∨ (k < m + 1 ∧ r = skp s (m + 1) true)) := by
                right
                refine ⟨by omega, ?_⟩
                rcases Hm.out with e | ⟨e1, e2⟩
                · subst e; exact Hn.out
                · rw [e2, hdm true, if_neg h10]
                  by_cases h37 : d = 37
                  · rw [if_pos h37]
                  · rw [if_neg h37, if_neg (by simp)]
              have h10' : (d != 10) = true := by rw [bne_iff_ne]; exact h10
              clear hdm hdd hx hx0 h10
              go_wp2_with fail
              exact ⟨⟨m + 1, by omega, by omega, by go_num, hn, hgr2⟩, by simp [intOf]; omega⟩
          · obtain rfl : m = s.size := by omega
            have hfin : Hid (k < s.size ∧ r = skp s s.size false) := by
              refine ⟨hlt, ?_⟩
              rcases Hm.out with e | ⟨e1, e2⟩
              · omega
              · rw [e2, skp_oo s _ true (Nat.le_refl _), skp_oo s _ false (Nat.le_refl _)]
            clear hx hx0
            go_wp2_with fail
            exact ⟨⟨s.size, Nat.le_refl _, rfl, hfin.out.2, hgr2⟩, by simp [intOf]; omega⟩
      · have h1' : (c == 37) = false := by simpa using h1
        by_cases h2 : blk c = true
        · have Hn : Hid (r = skp s (k + 1) false) := by
            show r = _
            rw [Hk.out, Hd.out false]
            by_cases h10 : c = 10
            · rw [if_pos h10]
            · rw [if_neg h10, if_neg h1, if_neg (by simp [h2])]
          have h3 : c = 32 ∨ c = 9 ∨ c = 10 ∨ c = 13 := by simp [blk] at h2; omega
          clear h1 h2
          rcases h3 with rfl | rfl | rfl | rfl
          all_goals
            go_wp2_with fail
            exact ⟨⟨k + 1, by omega, by go_num, Hn, hgr⟩, by simp [intOf]; omega⟩
        · have e : r = k := by
            have h10 : ¬ c = 10 := fun e => by subst e; exact h2 rfl
            rw [Hk.out, Hd.out false, if_neg h10, if_neg h1, if_pos ⟨rfl, by simpa using h2⟩]
          subst e
          have h3 : (c != 32) = true ∧ (c != 9) = true ∧ (c != 10) = true ∧ (c != 13) = true := by simp [blk] at h2; simp; omega
          obtain ⟨n1, n2, n3, n4⟩ := h3
          clear h1 h2
          go_wp2_with fail
          go_ret
          exact ⟨rfl, hgr.out⟩
    · obtain rfl : k = s.size := by omega
      have e : r = s.size := by rw [Hk.out, skp_oo s _ false (Nat.le_refl _)]
      subst e
      go_wp2_with fail
      go_ret
      exact ⟨rfl, hgr.out⟩
end Go.Proofs.YtnojhboflegkdaaDoor
