/-
  The walks of SerialTells, SerialOne and SerialWindow, over what alive says.
-/
import Derived.Test.YtanhigaingjalaaP
set_option linter.unusedSimpArgs false
set_option linter.unusedVariables false
namespace Go.Proofs.Ytanhigaingjalaa
open Go.RowKit Go.Maps

/-- The chapter's examples come out. -/
def AliveOk : Prop := ∀ W, Calls Try.prog 8 #[] W fun e w' => e = .returned (.bool true) ∧ G0 W w'

set_option maxRecDepth 20000 in
set_option maxHeartbeats 1000000 in
theorem tells_w (hal : AliveOk) (W : World) (a b n : Int) (ha : Rg a) (hb : Rg b) (hn : Rg n) :
    Calls Try.prog 3 #[.int .u32 a, .int .u32 b, .int .u32 n] W fun e W' => e = .returned (.bool true) ∧ G0 W W' := by
  have c9 := rahead_c a b ha.1 ha.2 hb.1 hb.2
  have c10 := rless_c a b ha.1 ha.2 hb.1 hb.2
  have c11 := ahead_c a b
  have c12 := less_c a b
  have c13 := in_c a n b
  have c14 := max_c a b
  have h1 := ah_lo a b
  have h2 := ah_hi a b
  obtain ⟨hn1, hn2⟩ := hn
  unfold mx at c14
  generalize ah a b = c at *
  rcases hls : ls a b with _ | _
  · rw [hls] at c10 c12 c14
    simp only [Bool.false_eq_true, if_false] at c14
    clear hls
    go_enter Try.func3, Try.ntmps3
    go_wp2_with (first | (go_at_call 8; refine (hal _).mono ?_; rintro e w' ⟨rfl, hg⟩) | (go_at_call 9; refine (c9 _).mono ?_; rintro e w' ⟨rfl, rfl⟩) | (go_at_call 10; refine (c10 _).mono ?_; rintro e w' ⟨rfl, rfl⟩) | (go_at_call 11; refine (c11 _).mono ?_; rintro e w' ⟨rfl, rfl⟩) | (go_at_call 12; refine (c12 _).mono ?_; rintro e w' ⟨rfl, rfl⟩) | (go_at_call 13; refine (c13 _).mono ?_; rintro e w' ⟨rfl, rfl⟩) | (go_at_call 14; refine (c14 _).mono ?_; rintro e w' ⟨rfl, rfl⟩))
    go_ret
    exact ⟨by simp, hg⟩
  · rw [hls] at c10 c12 c14
    simp only [if_true] at c14
    clear hls
    go_enter Try.func3, Try.ntmps3
    go_wp2_with (first | (go_at_call 8; refine (hal _).mono ?_; rintro e w' ⟨rfl, hg⟩) | (go_at_call 9; refine (c9 _).mono ?_; rintro e w' ⟨rfl, rfl⟩) | (go_at_call 10; refine (c10 _).mono ?_; rintro e w' ⟨rfl, rfl⟩) | (go_at_call 11; refine (c11 _).mono ?_; rintro e w' ⟨rfl, rfl⟩) | (go_at_call 12; refine (c12 _).mono ?_; rintro e w' ⟨rfl, rfl⟩) | (go_at_call 13; refine (c13 _).mono ?_; rintro e w' ⟨rfl, rfl⟩) | (go_at_call 14; refine (c14 _).mono ?_; rintro e w' ⟨rfl, rfl⟩))
    go_ret
    exact ⟨by simp, hg⟩

/-- SerialOne's calls at numbers moved on alike. -/
theorem less_k (a b k a' b' : Int) (x : Bool) (h1 : (a + k) % 4294967296 = a') (h2 : (b + k) % 4294967296 = b') (h : ls a b = x) (w : World) : Calls Try.prog 12 #[.int .u32 a', .int .u32 b'] w fun e w' => e = .returned (.bool x) ∧ w = w' := by
  subst h1 h2 h; rw [← ls_add a b k]; exact less_c _ _ w
theorem ahead_k (a b k a' b' c : Int) (h1 : (a + k) % 4294967296 = a') (h2 : (b + k) % 4294967296 = b') (h : ah a b = c) (w : World) : Calls Try.prog 11 #[.int .u32 a', .int .u32 b'] w fun e w' => e = .returned (.int .u32 c) ∧ w = w' := by
  subst h1 h2 h; rw [← ah_add a b k]; exact ahead_c _ _ w
theorem max_k (a b k a' b' m' : Int) (ha : Rg a) (hb : Rg b) (h1 : (a + k) % 4294967296 = a') (h2 : (b + k) % 4294967296 = b') (h : (mx a b + k) % 4294967296 = m') (w : World) : Calls Try.prog 14 #[.int .u32 a', .int .u32 b'] w fun e w' => e = .returned (.int .u32 m') ∧ w = w' := by
  subst h1 h2 h; rw [← mx_add a b k ha hb]; exact max_c _ _ w

set_option maxRecDepth 20000 in
set_option maxHeartbeats 1000000 in
theorem one_half (hal : AliveOk) (W : World) (a b k : Int) (ha : Rg a) (hb : Rg b) (hx : ls a b = false) (hy : ls b a = false) (h0 : (a == b) = false) (h1 : ((a - b) % 4294967296 == 2147483648) = true) :
    Calls Try.prog 5 #[.int .u32 a, .int .u32 b, .int .u32 k] W fun e W' => e = .returned (.bool true) ∧ G0 W W' := by
  have k3 := less_k a b k _ _ _ rfl rfl hx
  have k4 := ahead_k a b k _ _ _ rfl rfl rfl
  have k5 := ahead_c a b
  have k6 := max_k a b k _ _ _ ha hb rfl rfl rfl
  have k7 := max_c a b
  have k1 := less_c a b
  have k2 := less_c b a
  rw [hx] at k1
  rw [hy] at k2
  clear hx hy
  generalize ah a b = c at *
  generalize mx a b = m at *
  go_enter Try.func5, Try.ntmps5
  go_wp2_with fail
  refine (hal _).mono ?_
  rintro e w1 ⟨rfl, hg⟩
  go_wp2_with fail
  refine (k1 _).mono ?_
  rintro e w' ⟨rfl, rfl⟩
  go_wp2_with fail
  refine (k2 _).mono ?_
  rintro e w' ⟨rfl, rfl⟩
  go_wp2_with fail
  refine (k3 _).mono ?_
  rintro e w' ⟨rfl, rfl⟩
  go_wp2_with fail
  refine (k4 _).mono ?_
  rintro e w' ⟨rfl, rfl⟩
  go_wp2_with fail
  refine (k5 _).mono ?_
  rintro e w' ⟨rfl, rfl⟩
  go_wp2_with fail
  refine (k6 _).mono ?_
  rintro e w' ⟨rfl, rfl⟩
  go_wp2_with fail
  refine (k7 _).mono ?_
  rintro e w' ⟨rfl, rfl⟩
  go_wp2_with fail
  go_ret
  exact ⟨by simp [], hg⟩

set_option maxRecDepth 20000 in
set_option maxHeartbeats 1000000 in
theorem one_no (hal : AliveOk) (W : World) (a b k : Int) (ha : Rg a) (hb : Rg b) (x y : Bool) (hx : ls a b = x) (hy : ls b a = y) (h0 : (a == b) = false) (h1 : ((a - b) % 4294967296 == 2147483648) = false) (hxy : (x != y) = true) :
    Calls Try.prog 5 #[.int .u32 a, .int .u32 b, .int .u32 k] W fun e W' => e = .returned (.bool true) ∧ G0 W W' := by
  have k3 := less_k a b k _ _ _ rfl rfl hx
  have k4 := ahead_k a b k _ _ _ rfl rfl rfl
  have k5 := ahead_c a b
  have k6 := max_k a b k _ _ _ ha hb rfl rfl rfl
  have k7 := max_c a b
  have k1 := less_c a b
  have k2 := less_c b a
  rw [hx] at k1
  rw [hy] at k2
  clear hx hy
  generalize ah a b = c at *
  generalize mx a b = m at *
  go_enter Try.func5, Try.ntmps5
  go_wp2_with fail
  refine (hal _).mono ?_
  rintro e w1 ⟨rfl, hg⟩
  go_wp2_with fail
  refine (k1 _).mono ?_
  rintro e w' ⟨rfl, rfl⟩
  go_wp2_with fail
  refine (k2 _).mono ?_
  rintro e w' ⟨rfl, rfl⟩
  go_wp2_with fail
  refine (k3 _).mono ?_
  rintro e w' ⟨rfl, rfl⟩
  go_wp2_with fail
  refine (k4 _).mono ?_
  rintro e w' ⟨rfl, rfl⟩
  go_wp2_with fail
  refine (k5 _).mono ?_
  rintro e w' ⟨rfl, rfl⟩
  go_wp2_with fail
  refine (k6 _).mono ?_
  rintro e w' ⟨rfl, rfl⟩
  go_wp2_with fail
  refine (k7 _).mono ?_
  rintro e w' ⟨rfl, rfl⟩
  go_wp2_with fail
  go_ret
  exact ⟨by simpa using hxy, hg⟩

set_option maxRecDepth 20000 in
set_option maxHeartbeats 1000000 in
theorem one_same (hal : AliveOk) (W : World) (a b k : Int) (ha : Rg a) (hb : Rg b) (hx : ls a b = false) (hy : ls b a = false) (h0 : (a == b) = true) :
    Calls Try.prog 5 #[.int .u32 a, .int .u32 b, .int .u32 k] W fun e W' => e = .returned (.bool true) ∧ G0 W W' := by
  have k3 := less_k a b k _ _ _ rfl rfl hx
  have k4 := ahead_k a b k _ _ _ rfl rfl rfl
  have k5 := ahead_c a b
  have k6 := max_k a b k _ _ _ ha hb rfl rfl rfl
  have k7 := max_c a b
  have k1 := less_c a b
  have k2 := less_c b a
  rw [hx] at k1
  rw [hy] at k2
  clear hx hy
  generalize ah a b = c at *
  generalize mx a b = m at *
  go_enter Try.func5, Try.ntmps5
  go_wp2_with fail
  refine (hal _).mono ?_
  rintro e w1 ⟨rfl, hg⟩
  go_wp2_with fail
  refine (k1 _).mono ?_
  rintro e w' ⟨rfl, rfl⟩
  go_wp2_with fail
  refine (k2 _).mono ?_
  rintro e w' ⟨rfl, rfl⟩
  go_wp2_with fail
  refine (k3 _).mono ?_
  rintro e w' ⟨rfl, rfl⟩
  go_wp2_with fail
  refine (k4 _).mono ?_
  rintro e w' ⟨rfl, rfl⟩
  go_wp2_with fail
  refine (k5 _).mono ?_
  rintro e w' ⟨rfl, rfl⟩
  go_wp2_with fail
  refine (k6 _).mono ?_
  rintro e w' ⟨rfl, rfl⟩
  go_wp2_with fail
  refine (k7 _).mono ?_
  rintro e w' ⟨rfl, rfl⟩
  go_wp2_with fail
  go_ret
  exact ⟨by simp [], hg⟩

theorem one_w (hal : AliveOk) (W : World) (a b k : Int) (ha : Rg a) (hb : Rg b) :
    Calls Try.prog 5 #[.int .u32 a, .int .u32 b, .int .u32 k] W fun e W' => e = .returned (.bool true) ∧ G0 W W' := by
  by_cases h0 : a = b
  · exact one_same hal W a b k ha hb (by rw [h0]; exact ls_self b) (by rw [h0]; exact ls_self b) (by simpa using h0)
  · by_cases h1 : (a - b) % 4294967296 = 2147483648
    · exact one_half hal W a b k ha hb (ls_half a b h1).1 (ls_half a b h1).2 (by simpa using h0) (by simpa using h1)
    · exact one_no hal W a b k ha hb _ _ rfl rfl (by simpa using h0) (by simpa using h1) (ls_one a b ha hb h0 h1)

set_option maxRecDepth 20000 in
set_option maxHeartbeats 1000000 in
theorem win_a (hal : AliveOk) (W : World) (base n a b c m : Int) (hm : n.tmod 2147483648 = m) (ha : decide (ah base a < m) = false)  :
    Calls Try.prog 6 #[.int .u32 base, .int .u32 n, .int .u32 a, .int .u32 b, .int .u32 c] W fun e W' => e = .returned (.bool true) ∧ G0 W W' := by
  have i1 := in_c base m a
  rw [ha] at i1
  clear ha
  go_enter Try.func6, Try.ntmps6
  go_wp2_with fail
  refine (hal _).mono ?_
  rintro e w1 ⟨rfl, hg⟩
  go_wp2_with fail
  refine (i1 _).mono ?_
  rintro e w' ⟨rfl, rfl⟩
  go_wp2_with fail
  go_ret
  exact ⟨by simp, hg⟩

set_option maxRecDepth 20000 in
set_option maxHeartbeats 1000000 in
theorem win_b (hal : AliveOk) (W : World) (base n a b c m : Int) (hm : n.tmod 2147483648 = m) (ha : decide (ah base a < m) = true) (hb : decide (ah base b < m) = false)  :
    Calls Try.prog 6 #[.int .u32 base, .int .u32 n, .int .u32 a, .int .u32 b, .int .u32 c] W fun e W' => e = .returned (.bool true) ∧ G0 W W' := by
  have i1 := in_c base m a
  rw [ha] at i1
  clear ha
  have i2 := in_c base m b
  rw [hb] at i2
  clear hb
  go_enter Try.func6, Try.ntmps6
  go_wp2_with fail
  refine (hal _).mono ?_
  rintro e w1 ⟨rfl, hg⟩
  go_wp2_with fail
  refine (i1 _).mono ?_
  rintro e w' ⟨rfl, rfl⟩
  go_wp2_with fail
  refine (i2 _).mono ?_
  rintro e w' ⟨rfl, rfl⟩
  go_wp2_with fail
  go_ret
  exact ⟨by simp, hg⟩

set_option maxRecDepth 20000 in
set_option maxHeartbeats 1000000 in
theorem win_c (hal : AliveOk) (W : World) (base n a b c m : Int) (hm : n.tmod 2147483648 = m) (ha : decide (ah base a < m) = true) (hb : decide (ah base b < m) = true) (hc : decide (ah base c < m) = false)  :
    Calls Try.prog 6 #[.int .u32 base, .int .u32 n, .int .u32 a, .int .u32 b, .int .u32 c] W fun e W' => e = .returned (.bool true) ∧ G0 W W' := by
  have i1 := in_c base m a
  rw [ha] at i1
  clear ha
  have i2 := in_c base m b
  rw [hb] at i2
  clear hb
  have i3 := in_c base m c
  rw [hc] at i3
  clear hc
  go_enter Try.func6, Try.ntmps6
  go_wp2_with fail
  refine (hal _).mono ?_
  rintro e w1 ⟨rfl, hg⟩
  go_wp2_with fail
  refine (i1 _).mono ?_
  rintro e w' ⟨rfl, rfl⟩
  go_wp2_with fail
  refine (i2 _).mono ?_
  rintro e w' ⟨rfl, rfl⟩
  go_wp2_with fail
  refine (i3 _).mono ?_
  rintro e w' ⟨rfl, rfl⟩
  go_wp2_with fail
  go_ret
  exact ⟨by simp, hg⟩

set_option maxRecDepth 20000 in
set_option maxHeartbeats 1000000 in
theorem win_no (hal : AliveOk) (W : World) (base n a b c m : Int) (hm : n.tmod 2147483648 = m) (ha : decide (ah base a < m) = true) (hb : decide (ah base b < m) = true) (hc : decide (ah base c < m) = true) (hab : ls a b = false) (hd : decide (ah base a < ah base b) = false) :
    Calls Try.prog 6 #[.int .u32 base, .int .u32 n, .int .u32 a, .int .u32 b, .int .u32 c] W fun e W' => e = .returned (.bool true) ∧ G0 W W' := by
  have i1 := in_c base m a
  rw [ha] at i1
  clear ha
  have i2 := in_c base m b
  rw [hb] at i2
  clear hb
  have i3 := in_c base m c
  rw [hc] at i3
  clear hc
  have l1 := less_c a b
  rw [hab] at l1
  clear hab
  have e1 := ahead_c base a
  have e2 := ahead_c base b
  generalize ah base a = ka at *
  generalize ah base b = kb at *
  go_enter Try.func6, Try.ntmps6
  go_wp2_with fail
  refine (hal _).mono ?_
  rintro e w1 ⟨rfl, hg⟩
  go_wp2_with fail
  refine (i1 _).mono ?_
  rintro e w' ⟨rfl, rfl⟩
  go_wp2_with fail
  refine (i2 _).mono ?_
  rintro e w' ⟨rfl, rfl⟩
  go_wp2_with fail
  refine (i3 _).mono ?_
  rintro e w' ⟨rfl, rfl⟩
  go_wp2_with fail
  refine (l1 _).mono ?_
  rintro e w' ⟨rfl, rfl⟩
  go_wp2_with fail
  refine (e1 _).mono ?_
  rintro e w' ⟨rfl, rfl⟩
  go_wp2_with fail
  refine (e2 _).mono ?_
  rintro e w' ⟨rfl, rfl⟩
  go_wp2_with fail
  refine (l1 _).mono ?_
  rintro e w' ⟨rfl, rfl⟩
  go_wp2_with fail
  go_ret
  exact ⟨by simp, hg⟩

set_option maxRecDepth 20000 in
set_option maxHeartbeats 1000000 in
theorem win_no2 (hal : AliveOk) (W : World) (base n a b c m : Int) (hm : n.tmod 2147483648 = m) (ha : decide (ah base a < m) = true) (hb : decide (ah base b < m) = true) (hc : decide (ah base c < m) = true) (hab : ls a b = true) (hd : decide (ah base a < ah base b) = true) (hbc : ls b c = false) :
    Calls Try.prog 6 #[.int .u32 base, .int .u32 n, .int .u32 a, .int .u32 b, .int .u32 c] W fun e W' => e = .returned (.bool true) ∧ G0 W W' := by
  have i1 := in_c base m a
  rw [ha] at i1
  clear ha
  have i2 := in_c base m b
  rw [hb] at i2
  clear hb
  have i3 := in_c base m c
  rw [hc] at i3
  clear hc
  have l2 := less_c b c
  rw [hbc] at l2
  clear hbc
  have l1 := less_c a b
  rw [hab] at l1
  clear hab
  have e1 := ahead_c base a
  have e2 := ahead_c base b
  generalize ah base a = ka at *
  generalize ah base b = kb at *
  go_enter Try.func6, Try.ntmps6
  go_wp2_with fail
  refine (hal _).mono ?_
  rintro e w1 ⟨rfl, hg⟩
  go_wp2_with fail
  refine (i1 _).mono ?_
  rintro e w' ⟨rfl, rfl⟩
  go_wp2_with fail
  refine (i2 _).mono ?_
  rintro e w' ⟨rfl, rfl⟩
  go_wp2_with fail
  refine (i3 _).mono ?_
  rintro e w' ⟨rfl, rfl⟩
  go_wp2_with fail
  refine (l1 _).mono ?_
  rintro e w' ⟨rfl, rfl⟩
  go_wp2_with fail
  refine (e1 _).mono ?_
  rintro e w' ⟨rfl, rfl⟩
  go_wp2_with fail
  refine (e2 _).mono ?_
  rintro e w' ⟨rfl, rfl⟩
  go_wp2_with fail
  refine (l1 _).mono ?_
  rintro e w' ⟨rfl, rfl⟩
  go_wp2_with fail
  refine (l2 _).mono ?_
  rintro e w' ⟨rfl, rfl⟩
  go_wp2_with fail
  go_ret
  exact ⟨by simp, hg⟩

set_option maxRecDepth 20000 in
set_option maxHeartbeats 1000000 in
theorem win_yes (hal : AliveOk) (W : World) (base n a b c m : Int) (hm : n.tmod 2147483648 = m) (ha : decide (ah base a < m) = true) (hb : decide (ah base b < m) = true) (hc : decide (ah base c < m) = true) (hab : ls a b = true) (hd : decide (ah base a < ah base b) = true) (hbc : ls b c = true) (hac : ls a c = true) :
    Calls Try.prog 6 #[.int .u32 base, .int .u32 n, .int .u32 a, .int .u32 b, .int .u32 c] W fun e W' => e = .returned (.bool true) ∧ G0 W W' := by
  have i1 := in_c base m a
  rw [ha] at i1
  clear ha
  have i2 := in_c base m b
  rw [hb] at i2
  clear hb
  have i3 := in_c base m c
  rw [hc] at i3
  clear hc
  have l2 := less_c b c
  rw [hbc] at l2
  clear hbc
  have l3 := less_c a c
  rw [hac] at l3
  clear hac
  have l1 := less_c a b
  rw [hab] at l1
  clear hab
  have e1 := ahead_c base a
  have e2 := ahead_c base b
  generalize ah base a = ka at *
  generalize ah base b = kb at *
  go_enter Try.func6, Try.ntmps6
  go_wp2_with fail
  refine (hal _).mono ?_
  rintro e w1 ⟨rfl, hg⟩
  go_wp2_with fail
  refine (i1 _).mono ?_
  rintro e w' ⟨rfl, rfl⟩
  go_wp2_with fail
  refine (i2 _).mono ?_
  rintro e w' ⟨rfl, rfl⟩
  go_wp2_with fail
  refine (i3 _).mono ?_
  rintro e w' ⟨rfl, rfl⟩
  go_wp2_with fail
  refine (l1 _).mono ?_
  rintro e w' ⟨rfl, rfl⟩
  go_wp2_with fail
  refine (e1 _).mono ?_
  rintro e w' ⟨rfl, rfl⟩
  go_wp2_with fail
  refine (e2 _).mono ?_
  rintro e w' ⟨rfl, rfl⟩
  go_wp2_with fail
  refine (l1 _).mono ?_
  rintro e w' ⟨rfl, rfl⟩
  go_wp2_with fail
  refine (l2 _).mono ?_
  rintro e w' ⟨rfl, rfl⟩
  go_wp2_with fail
  refine (l3 _).mono ?_
  rintro e w' ⟨rfl, rfl⟩
  go_wp2_with fail
  go_ret
  exact ⟨by simp, hg⟩

theorem win_w (hal : AliveOk) (W : World) (base n a b c : Int) (hn : Rg n) :
    Calls Try.prog 6 #[.int .u32 base, .int .u32 n, .int .u32 a, .int .u32 b, .int .u32 c] W fun e W' => e = .returned (.bool true) ∧ G0 W W' := by
  obtain ⟨m, hm⟩ : ∃ m, n.tmod 2147483648 = m := ⟨_, rfl⟩
  have hm2 : m ≤ 2147483648 := by rw [← hm, Int.tmod_eq_emod_of_nonneg hn.1]; omega
  rcases ha : decide (ah base a < m) with _ | _
  · exact win_a hal W base n a b c m hm ha
  rcases hb : decide (ah base b < m) with _ | _
  · exact win_b hal W base n a b c m hm ha hb
  rcases hc : decide (ah base c < m) with _ | _
  · exact win_c hal W base n a b c m hm ha hb hc
  have wab := ls_win base m a b hm2 (of_decide_eq_true ha) (of_decide_eq_true hb)
  have wbc := ls_win base m b c hm2 (of_decide_eq_true hb) (of_decide_eq_true hc)
  have wac := ls_win base m a c hm2 (of_decide_eq_true ha) (of_decide_eq_true hc)
  rcases hab : ls a b with _ | _
  · exact win_no hal W base n a b c m hm ha hb hc hab (wab.symm.trans hab)
  rcases hbc : ls b c with _ | _
  · exact win_no2 hal W base n a b c m hm ha hb hc hab (wab.symm.trans hab) hbc
  refine win_yes hal W base n a b c m hm ha hb hc hab (wab.symm.trans hab) hbc ?_
  rw [wac]
  rw [wab] at hab
  rw [wbc] at hbc
  have h1 := of_decide_eq_true hab
  have h2 := of_decide_eq_true hbc
  exact decide_eq_true (by omega)
end Go.Proofs.Ytanhigaingjalaa
