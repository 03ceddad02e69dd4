/-
  The reference's signs; its reader of one token, whatever it is.
-/
import Derived.Test.YtnojhboflegkdaaDoorAG
set_option linter.unusedVariables false
set_option linter.unusedSimpArgs false
namespace Go.Proofs.YtnojhboflegkdaaDoor
open Go.RowKit Go.Maps
theorem or5 (b1 b2 b3 b4 b5 : Bool) (h : (b1 || b2 || b3 || b4 || b5) = true) : b1 = true ∨ (b1 = false ∧ (b2 = true ∨ (b2 = false ∧ (b3 = true ∨ (b3 = false ∧ (b4 = true ∨ (b4 = false ∧ b5 = true))))))) := by
  cases b1 <;> cases b2 <;> cases b3 <;> cases b4 <;> cases b5 <;> simp_all
theorem or5n (b1 b2 b3 b4 b5 : Bool) (h : (b1 || b2 || b3 || b4 || b5) = false) : b1 = false ∧ b2 = false ∧ b3 = false ∧ b4 = false ∧ b5 = false := by
  cases b1 <;> cases b2 <;> cases b3 <;> cases b4 <;> cases b5 <;> simp_all
theorem n5 : (e0.toList == [45, 62]) = false ∧ (e0.toList == [61, 61]) = false ∧ (e0.toList == [47, 61]) = false ∧ (e0.toList == [61, 60]) = false ∧ (e0.toList == [62, 61]) = false := by decide +kernel

set_option maxRecDepth 100000 in
set_option maxHeartbeats 4000000 in
theorem tokr_s2 (W : World) (s : ByteArray) (i : Nat) (hs : s.size ≤ 60000) (hi : i < s.size) (h1 : dig (pk s i) = false) (h2 : pk s i ≠ 34) (hin : inN (pk s i) = false) (hlt : i + 1 < s.size) (hp : pr (pk s i) (pk s (i + 1)) = true) :
    Calls Tryd.prog 21 #[.string s, .int .i64 (i : Int)] W fun e w' => EndR W e w' (.ok (⟨5, sb [pk s i, pk s (i + 1)], 0, [], i⟩, i + 2)) := by
  have hsI : (s.size : Int) ≤ 60000 := by omega
  have hiI : (i : Int) < (s.size : Int) := by omega
  have hx := ix s i hi
  have hpk := pk_lt_size hi
  have htw := two_eq (s := s) (i := i) (by omega)
  have hext : s.extract i (i + 2) = sb [pk s i, pk s (i + 1)] := by
    apply ba_ext
    · rw [size_ext s i _ (by omega), sb_size]; simp
    · intro k hk
      rw [size_ext s i _ (by omega)] at hk
      rw [bt_ext s i _ k (by omega) hk, bt_sb _ k (by simp; omega)]
      · match k, hk with
        | 0, _ => rw [hpk]; rfl
        | 1, _ => rw [pk_lt_size hlt]; rfl
        | n + 2, h => omega
      · match k, hk with
        | 0, _ => exact ⟨pk_nonneg _ _, pk_lt _ _⟩
        | 1, _ => exact ⟨pk_nonneg _ _, pk_lt _ _⟩
        | n + 2, h => omega
  rw [← hext]
  have hsl : ∀ w, (Instr.slice 9 (.string s) (some (.int .i64 (i : Int))) (some (.int .i64 ((i : Int) + 2))) none).run Tryd.prog w = .ok (.string (s.extract i (i + 2))) w := fun w => by
    rw [show ((i : Int) + 2) = ((i + 2 : Nat) : Int) by omega]; exact sl s i (i + 2) (by omega) (by omega) w
  have hltI : (i : Int) + 1 < (s.size : Int) := by omega
  have q1 := htw 45 62
  have q2 := htw 61 61
  have q3 := htw 47 61
  have q4 := htw 61 60
  have q5 := htw 62 61
  rw [hpk, pk_lt_size hlt] at hp
  have key := or5 ((s.extract i (i + 2)).toList == [45, 62]) ((s.extract i (i + 2)).toList == [61, 61]) ((s.extract i (i + 2)).toList == [47, 61]) ((s.extract i (i + 2)).toList == [61, 60]) ((s.extract i (i + 2)).toList == [62, 61]) (by rw [q1, q2, q3, q4, q5]; exact hp)
  clear htw hext q1 q2 q3 q4 q5 hp
  generalize s.extract i (i + 2) = tw at hsl key ⊢
  rw [hpk] at h1 h2 hin
  obtain ⟨c, hc⟩ : ∃ c, bt s i = c := ⟨_, rfl⟩
  rw [hc] at hx h1 h2 hin hpk
  have h2' : (c == 34) = false := by simpa using h2
  have Hc := Lib.hid hc
  clear hc hpk h2
  rcases key with k1 | ⟨k1, k2 | ⟨k2, k3 | ⟨k3, k4 | ⟨k4, k5⟩⟩⟩⟩
  all_goals
    go_enter Tryd.func21, Tryd.ntmps21
    have hT1 : Tk (W.alloc (.cells #[.int .i64 0, .string ⟨#[]⟩, .int .i64 0, .slice none 0 0, .int .i64 0] 33)) W.heap.size 0 e0 0 nl 0 := heap_alloc_new W _
    have hlb := hT1.lt
    obtain ⟨⟨t0, t1, t2, t3, t4⟩, u0, u1, u2, u3, u4⟩ := hT1.facts
    go_wp2_with (first | (go_at_call 26; refine (between_c _ _ _ _).mono ?_; rw [btw_dig, h1]; rintro e w' ⟨rfl, rfl⟩) | (go_at_call 38; refine (namer_c _ _).mono ?_; rw [hin]; rintro e w' ⟨rfl, rfl⟩) | fail)
    generalize hW9 : World.alloc W _ = w9
    have hT9 : Tk w9 W.heap.size 5 tw 0 nl i := hW9 ▸ heap_alloc_new W _
    have hg9 : Gr (fun _ => False) W w9 := hW9 ▸ Gr.alloc W _ (fun _ => False)
    clear hW9
    obtain ⟨⟨t0, t1, t2, t3, t4⟩, -⟩ := hT9.facts
    refine bodyPost_ret (v := .tuple #[tkv 5 tw 0 nl i, .int .i64 ((i : Int) + 2), .int .i64 0]) (by simp [results, Tryd.results21, go_sem, t0, t1, t2, t3, t4]) rfl ?_
    exact ⟨none, 0, rfl, World.ownsRow_nil _ _ _ _, hg9⟩

set_option maxRecDepth 100000 in
set_option maxHeartbeats 4000000 in
theorem tokr_s1 (W : World) (s : ByteArray) (i : Nat) (hs : s.size ≤ 60000) (hi : i < s.size) (h1 : dig (pk s i) = false) (h2 : pk s i ≠ 34) (hin : inN (pk s i) = false) (hp : pr (pk s i) (pk s (i + 1)) = false) (r : Option Int) (hr : r = ones.find? (fun a => pk s i == a)) :
    Calls Tryd.prog 21 #[.string s, .int .i64 (i : Int)] W fun e w' => EndR W e w' (match r with | none => .error 151 | some a => .ok (⟨5, sb [a], 0, [], i⟩, i + 1)) := by
  have hsI : (s.size : Int) ≤ 60000 := by omega
  have hiI : (i : Int) < (s.size : Int) := by omega
  have hx := ix s i hi
  have hpk := pk_lt_size hi
  have hiJ : (i : Int) + 1 ≤ 60000 := by omega
  have htw : ∃ tw : ByteArray, ((i + 1 < s.size ∧ tw = s.extract i (i + 2)) ∨ (i + 1 = s.size ∧ tw = e0)) ∧ ((tw.toList == [45, 62]) = false ∧ (tw.toList == [61, 61]) = false ∧ (tw.toList == [47, 61]) = false ∧ (tw.toList == [61, 60]) = false ∧ (tw.toList == [62, 61]) = false) := by
    by_cases hlt : i + 1 < s.size
    · refine ⟨_, .inl ⟨hlt, rfl⟩, ?_⟩
      have htw := two_eq (s := s) (i := i) (by omega)
      rw [hpk, pk_lt_size hlt] at hp
      refine or5n _ _ _ _ _ ?_
      rw [htw 45 62, htw 61 61, htw 47 61, htw 61 60, htw 62 61]
      exact hp
    · exact ⟨e0, .inr ⟨by omega, rfl⟩, n5⟩
  rw [hpk] at hr
  rw [hpk] at h1 h2 hin
  obtain ⟨c, hc⟩ : ∃ c, bt s i = c := ⟨_, rfl⟩
  rw [hc] at hx h1 h2 hin hpk
  have h2' : (c == 34) = false := by simpa using h2
  have Hc := Lib.hid hc
  rw [hc] at hr
  have Hr := Lib.hid hr
  clear hr hc hpk h2 hp
  obtain ⟨tw, hcase, k1, k2, k3, k4, k5⟩ := htw
  have hones : Hid (∀ k, k < 17 → bt oneS k = ones.getD k 0 ∧ oneS.extract k (k + 1) = sb [ones.getD k 0]) := Lib.hid (fun k hk => ones_all ⟨k, hk⟩)
  rcases hcase with ⟨hlt, htw⟩ | ⟨hlt, htw⟩
  all_goals
    first
      | (have hsl : ∀ w, (Instr.slice 9 (.string s) (some (.int .i64 (i : Int))) (some (.int .i64 ((i : Int) + 2))) none).run Tryd.prog w = .ok (.string tw) w := fun w => (by rw [show ((i : Int) + 2) = ((i + 2 : Nat) : Int) by omega, htw]; exact sl s i (i + 2) (by omega) (by omega) w); have hltI : (i : Int) + 1 < (s.size : Int) := (by omega); clear htw)
      | (have hltI : decide ((i : Int) + 1 < (s.size : Int)) = false := (by simp; omega); subst htw)
    clear hlt hs hi
    go_enter Tryd.func21, Tryd.ntmps21
    go_wp2_with (first | (go_at_call 26; refine (between_c _ _ _ _).mono ?_; rw [btw_dig, h1]; rintro e w' ⟨rfl, rfl⟩) | (go_at_call 38; refine (namer_c _ _).mono ?_; rw [hin]; rintro e w' ⟨rfl, rfl⟩) | fail)
    generalize hW1 : W.alloc _ = w1
    have hT1 : Tk w1 W.heap.size 0 e0 0 nl 0 := hW1 ▸ heap_alloc_new W _
    have hg1 : Hid (Gr (fun _ => False) W w1) := hW1 ▸ Gr.alloc _ _ _
    clear hW1
    obtain ⟨b1, hb1⟩ : ∃ b, W.heap.size = b := ⟨_, rfl⟩
    have hfin : Hid (∀ w9, Gr (fun k => k = b1) w1 w9 → Gr (fun _ => False) W w9) := Lib.hid (fun w9 g => hg1.out.trans' g (fun j hj e => by omega))
    rw [hb1] at hT1 ⊢
    clear hb1
    go_loopw [11] (fun u wr => ∃ k : Nat, k ≤ 17 ∧ u = .int .i64 (k : Int) ∧ Hid (r = (ones.drop k).find? (fun a => c == a)) ∧ wr = w1) (fun u _ => 17 - (intOf u).toNat)
    case atStart => exact ⟨0, by omega, rfl, Hr.out, rfl⟩
    case round =>
      obtain ⟨k, hk, rfl, Hk, rfl⟩ := hrel
      have hlb := hT1.lt
      obtain ⟨⟨t0, t1, t2, t3, t4⟩, u0, u1, u2, u3, u4⟩ := hT1.facts
      by_cases hlt : k < 17
      · have hkI : (k : Int) < 17 := by omega
        obtain ⟨z1, z2⟩ := hones.out k hlt
        have hy := ix oneS k (show k < oneS.size from hlt)
        have hsl2 : ∀ w, (Instr.slice 9 (.string oneS) (some (.int .i64 (k : Int))) (some (.int .i64 ((k : Int) + 1))) none).run Tryd.prog w = .ok (.string (sb [ones.getD k 0])) w := fun w => by
          rw [show ((k : Int) + 1) = ((k + 1 : Nat) : Int) by omega, ← z2]; exact sl oneS k (k + 1) (by omega) (show k + 1 ≤ oneS.size from hlt) w
        rw [z1] at hy
        have Hk2 : Hid (r = if (c == ones.getD k 0) = true then some (ones.getD k 0) else (ones.drop (k + 1)).find? (fun a => c == a)) := by
          show r = _
          rw [Hk.out, ones_drop k hlt, List.find?_cons]
          cases (c == ones.getD k 0) <;> rfl
        clear z1 z2
        generalize ones.getD k 0 = a at hy hsl2 Hk2
        by_cases hca : c = a
        · have e : r = some a := by rw [Hk2.out, if_pos (by simpa using hca)]
          subst e
          subst hca
          obtain ⟨nm, hnm⟩ : ∃ nm, sb [c] = nm := ⟨_, rfl⟩
          rw [hnm] at hsl2
          have Hnm := Lib.hid hnm
          clear hnm
          go_wp2_with fail
          generalize hX9 : World.setCell _ _ _ = w9
          obtain ⟨hT9, hg9⟩ := hT1.put 5 nm 0 nl i w9 hX9
          clear hX9 t0 t1 t2 t3 t4 u0 u1 u2 u3 u4
          obtain ⟨⟨t0, t1, t2, t3, t4⟩, -⟩ := hT9.facts
          refine bodyPost_ret (v := .tuple #[tkv 5 nm 0 nl i, .int .i64 ((i : Int) + 1), .int .i64 0]) (by simp [results, Tryd.results21, go_sem, t0, t1, t2, t3, t4]) rfl ?_
          exact ⟨none, 0, by rw [Hnm.out]; rfl, World.ownsRow_nil _ _ _ _, hfin.out w9 hg9⟩
        · have Hn : Hid (r = (ones.drop (k + 1)).find? (fun a => c == a)) := by
            show r = _
            rw [Hk2.out, if_neg (by simpa using hca)]
          have hac : (a == c) = false := by simpa using fun e => hca e.symm
          clear hca
          go_wp2_with fail
          exact ⟨⟨k + 1, by omega, by go_num, Hn, trivial⟩, by simp [intOf]; omega⟩
      · obtain rfl : k = 17 := by omega
        have e : r = none := by rw [Hk.out]; rfl
        subst e
        go_wp2_with fail
        generalize hX9 : World.setCell _ _ _ = w9
        obtain ⟨hT9, hg9⟩ := hT1.put 0 e0 0 nl 0 w9 hX9
        clear hX9 t0 t1 t2 t3 t4 u0 u1 u2 u3 u4
        obtain ⟨⟨t0, t1, t2, t3, t4⟩, -⟩ := hT9.facts
        refine bodyPost_ret (v := .tuple #[tkv 0 e0 0 nl 0, .int .i64 (i : Int), .int .i64 151]) (by simp [results, Tryd.results21, go_sem, t0, t1, t2, t3, t4]) rfl ?_
        exact ⟨⟨_, rfl⟩, hfin.out w9 hg9⟩

theorem tokr_c (W : World) (s : ByteArray) (i : Nat) (hs : s.size ≤ 60000) (hi : i < s.size) : Calls Tryd.prog 21 #[.string s, .int .i64 (i : Int)] W fun e w' => EndR W e w' (tokV s i) := by
  by_cases h1 : dig (pk s i) = true
  · exact tokr_num W s i hs hi h1
  by_cases h2 : pk s i = 34
  · exact tokr_txt W s i hs hi h2
  have h1' : dig (pk s i) = false := by simpa using h1
  rw [tokV, if_neg h1, if_neg h2]
  by_cases h3 : low (pk s i) = true ∨ vab (pk s i) = true
  · have hin : inN (pk s i) = true := by rcases h3 with h3 | h3 <;> simp [inN, h3]
    rw [if_pos h3]
    by_cases hq : 32 < span inN s i - i
    · rw [if_pos hq]; exact tokr_ne W s i hs hi h1' h2 hin _ rfl hq
    · rw [if_neg hq]
      by_cases hlo : low (pk s i) = true
      · by_cases hw : wrd (s.extract i (span inN s i)) = true
        · rw [if_pos hw]; exact tokr_nlw W s i hs hi h1' h2 hin _ rfl hq hlo hw
        · rw [if_neg hw, if_pos hlo]; exact tokr_nlo W s i hs hi h1' h2 hin _ rfl hq hlo (by simpa using hw)
      · have hw : ¬ wrd (s.extract i (span inN s i)) = true := fun e => by
          have hl := wrd_low e
          have hy := span_yes (p := inN) hin rfl
          have a := span_ge inN s (i + 1)
          have b := span_le (p := inN) (s := s) (i := i) (by omega)
          rw [bt_ext s i _ 0 b (by omega), Nat.add_zero, ← pk_lt_size hi] at hl
          exact hlo hl
        rw [if_neg hw, if_neg hlo]; exact tokr_nv W s i hs hi h1' h2 hin _ rfl hq (by simpa using hlo)
  · rw [if_neg h3]
    have hin : inN (pk s i) = false := by
      cases hh : inN (pk s i) with
      | false => rfl
      | true =>
        simp only [inN, Bool.or_eq_true] at hh
        rcases hh with hh | hh
        · exact absurd hh h3
        · rw [h1'] at hh; cases hh
    rw [sgn_sg2, sg2_ref]
    by_cases hp : pr (pk s i) (pk s (i + 1)) = true
    · rw [if_pos hp]
      have hlt : i + 1 < s.size := by
        refine lt_of_pk (fun e => ?_)
        rw [e] at hp
        simp [pr] at hp
      exact tokr_s2 W s i hs hi h1' h2 hin hlt hp
    · rw [if_neg hp]
      have hp' : pr (pk s i) (pk s (i + 1)) = false := by simpa using hp
      cases hf : ones.find? (fun a => pk s i == a) with
      | none => exact tokr_s1 W s i hs hi h1' h2 hin hp' none hf.symm
      | some a => exact tokr_s1 W s i hs hi h1' h2 hin hp' (some a) hf.symm
end Go.Proofs.YtnojhboflegkdaaDoor
