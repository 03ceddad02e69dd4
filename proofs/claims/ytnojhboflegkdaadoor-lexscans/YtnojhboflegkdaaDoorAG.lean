/-
  The reference's reader of one token.
-/
import Derived.Test.YtnojhboflegkdaaDoorAF
import Derived.Test.YtnojhboflegkdaaDoorU
set_option linter.unusedVariables false
set_option linter.unusedSimpArgs false
namespace Go.Proofs.YtnojhboflegkdaaDoor
open Go.RowKit Go.Maps

theorem wrd_low {t : ByteArray} (h : wrd t = true) : low (bt t 0) = true := by
  have key : ∀ l : List UInt8, t.toList = l → bt t 0 = (((l[0]?).getD 0).toNat : Int) := fun l e => by
    rw [← e, ByteArray.toList_eq, bt, Array.getElem?_toList]
  simp only [wrd, Bool.or_eq_true, beq_iff_eq] at h
  rcases h with ((((h | h) | h) | h) | h) | h
  all_goals (rw [key _ h]; rfl)

/-! ### Signs, as the reference tries them -/
def ones : List Int := [61, 60, 62, 43, 45, 42, 47, 33, 40, 41, 123, 125, 91, 93, 44, 59, 46]
def pr (x y : Int) : Bool := ((x == 45) && (y == 62)) || ((x == 61) && (y == 61)) || ((x == 47) && (y == 61)) || ((x == 61) && (y == 60)) || ((x == 62) && (y == 61))
theorem signs_split : signs = [[45, 62], [61, 61], [47, 61], [61, 60], [62, 61]] ++ ones.map (fun a => [a]) := by rfl
theorem pairs_find (x y : Int) : ([[45, 62], [61, 61], [47, 61], [61, 60], [62, 61]] : List (List Int)).find? (m2 x y) = if pr x y = true then some [x, y] else none := by
  by_cases h1 : x = 45 ∧ y = 62
  · obtain ⟨rfl, rfl⟩ := h1; rfl
  by_cases h2 : x = 61 ∧ y = 61
  · obtain ⟨rfl, rfl⟩ := h2; rfl
  by_cases h3 : x = 47 ∧ y = 61
  · obtain ⟨rfl, rfl⟩ := h3; rfl
  by_cases h4 : x = 61 ∧ y = 60
  · obtain ⟨rfl, rfl⟩ := h4; rfl
  by_cases h5 : x = 62 ∧ y = 61
  · obtain ⟨rfl, rfl⟩ := h5; rfl
  have e1 : ((x == 45) && (y == 62)) = false := by simpa using h1
  have e2 : ((x == 61) && (y == 61)) = false := by simpa using h2
  have e3 : ((x == 47) && (y == 61)) = false := by simpa using h3
  have e4 : ((x == 61) && (y == 60)) = false := by simpa using h4
  have e5 : ((x == 62) && (y == 61)) = false := by simpa using h5
  simp only [List.find?, m2, pr, e1, e2, e3, e4, e5, Bool.or_false, Bool.false_eq_true, if_false]
theorem sg2_ref (x y : Int) : sg2 x y = if pr x y = true then some [x, y] else (ones.find? (fun a => x == a)).map (fun a => [a]) := by
  unfold sg2
  rw [signs_split, List.find?_append, pairs_find, List.find?_map]
  cases pr x y <;> rfl
theorem ones_drop (k : Nat) (h : k < 17) : ones.drop k = ones.getD k 0 :: ones.drop (k + 1) := by
  rw [List.drop_eq_getElem_cons (by exact h), List.getD_eq_getElem?_getD, List.getElem?_eq_getElem (by exact h)]
  rfl
abbrev oneS : ByteArray := ⟨#[61, 60, 62, 43, 45, 42, 47, 33, 40, 41, 123, 125, 91, 93, 44, 59, 46]⟩
theorem ones_all : ∀ k : Fin 17, bt oneS k = ones.getD k 0 ∧ oneS.extract k (k + 1) = sb [ones.getD k 0] := by decide +kernel
theorem two_eq {s : ByteArray} {i : Nat} (h : i + 2 ≤ s.size) (a b : UInt8) : ((s.extract i (i + 2)).toList == [a, b]) = ((bt s i == (a.toNat : Int)) && (bt s (i + 1) == (b.toNat : Int))) := by
  have hz : (s.extract i (i + 2)).size = 2 := by rw [size_ext s i _ h]; omega
  have b0 : bt (s.extract i (i + 2)) 0 = bt s i := bt_ext s i (i + 2) 0 h (by omega)
  have b1 := bt_ext s i (i + 2) 1 h (by omega)
  rw [← b0, ← b1]
  generalize s.extract i (i + 2) = t at hz
  rw [ByteArray.toList_eq]
  have hl : t.data.toList.length = 2 := by rw [Array.length_toList]; exact hz
  match hd : t.data.toList, hl with
  | [x, y], _ =>
    have e0 : t.data[0]? = some x := by rw [← Array.getElem?_toList, hd]; rfl
    have e1 : t.data[1]? = some y := by rw [← Array.getElem?_toList, hd]; rfl
    simp only [bt, e0, e1, Option.getD_some]
    rw [Bool.eq_iff_iff]
    simp only [beq_iff_eq, Bool.and_eq_true, List.cons.injEq, and_true]
    constructor
    · rintro ⟨rfl, rfl⟩; exact ⟨rfl, rfl⟩
    · rintro ⟨h1, h2⟩; exact ⟨UInt8.toNat_inj.1 (by omega), UInt8.toNat_inj.1 (by omega)⟩

/-- A block for the answer, and behind it what the call makes. -/
theorem Tk.fin {W w1 w w9 : World} (g1 : Gr (fun _ => False) W w1) (g : Gr (fun _ => False) w1 w) (g9 : Gr (fun j => j = W.heap.size) w w9) : Gr (fun _ => False) W w9 := (g1.trans g).trans' g9 (fun j hj e => by omega)

set_option maxRecDepth 100000 in
set_option maxHeartbeats 4000000 in
theorem tokr_num (W : World) (s : ByteArray) (i : Nat) (hs : s.size ≤ 60000) (hi : i < s.size) (hd : dig (pk s i) = true) :
    Calls Tryd.prog 21 #[.string s, .int .i64 (i : Int)] W fun e w' => EndR W e w' (tokV s i) := by
  have hsI : (s.size : Int) ≤ 60000 := by omega
  have hiI : (i : Int) < (s.size : Int) := by omega
  have hx := ix s i hi
  have hpk := pk_lt_size hi
  have hc := fun w => number_c w s i hs hi hd
  rw [hpk] at hd
  generalize tokV s i = r at hc ⊢
  clear hpk
  rcases r with c | ⟨t, j⟩
  · go_enter Tryd.func21, Tryd.ntmps21
    go_wp2_with (first | (go_at_call 26; refine (between_c _ _ _ _).mono ?_; rw [btw_dig, hd]; rintro e w' ⟨rfl, rfl⟩) | fail)
    generalize hW1 : W.alloc _ = w1
    have hT1 : Tk w1 W.heap.size 0 e0 0 nl 0 := hW1 ▸ heap_alloc_new W _
    have hg1 : Hid (Gr (fun _ => False) W w1) := hW1 ▸ Gr.alloc _ _ _
    clear hW1
    refine (hc w1).mono ?_
    rintro e w2 ⟨⟨q, rfl⟩, hg2⟩
    have hT2 := hT1.gr hg2 (fun e => e)
    have hlb := hT2.lt
    obtain ⟨⟨t0, t1, t2, t3, t4⟩, u0, u1, u2, u3, u4⟩ := hT2.facts
    go_wp2_with fail
    generalize hX9 : World.setCell _ _ _ = w9
    obtain ⟨hT9, hg9⟩ := hT2.put 0 e0 0 nl 0 w9 hX9
    clear hX9 t0 t1 t2 t3 t4 u0 u1 u2 u3 u4
    obtain ⟨⟨t0, t1, t2, t3, t4⟩, -⟩ := hT9.facts
    refine bodyPost_ret (v := .tuple #[tkv 0 e0 0 nl 0, .int .i64 q, .int .i64 c]) (by simp [results, Tryd.results21, go_sem, t0, t1, t2, t3, t4]) rfl ?_
    exact ⟨⟨_, rfl⟩, Tk.fin hg1.out hg2 hg9⟩
  · go_enter Tryd.func21, Tryd.ntmps21
    go_wp2_with (first | (go_at_call 26; refine (between_c _ _ _ _).mono ?_; rw [btw_dig, hd]; rintro e w' ⟨rfl, rfl⟩) | fail)
    generalize hW1 : W.alloc _ = w1
    have hT1 : Tk w1 W.heap.size 0 e0 0 nl 0 := hW1 ▸ heap_alloc_new W _
    have hg1 : Hid (Gr (fun _ => False) W w1) := hW1 ▸ Gr.alloc _ _ _
    clear hW1
    refine (hc w1).mono ?_
    rintro e w2 ⟨ba, bc, rfl, hrow, hg2⟩
    have hT2 := hT1.gr hg2 (fun e => e)
    have hlb := hT2.lt
    obtain ⟨⟨t0, t1, t2, t3, t4⟩, u0, u1, u2, u3, u4⟩ := hT2.facts
    replace hrow := Lib.hid hrow
    go_wp2_with fail
    generalize hX9 : World.setCell _ _ _ = w9
    obtain ⟨hT9, hg9⟩ := hT2.put t.k t.s t.n (.slice ba t.b.length bc) t.at' w9 hX9
    clear hX9 t0 t1 t2 t3 t4 u0 u1 u2 u3 u4
    obtain ⟨⟨t0, t1, t2, t3, t4⟩, -⟩ := hT9.facts
    refine bodyPost_ret (v := .tuple #[tkv t.k t.s t.n (.slice ba t.b.length bc) t.at', .int .i64 (j : Int), .int .i64 0]) (by simp [results, Tryd.results21, go_sem, t0, t1, t2, t3, t4]) rfl ?_
    have hsz := hg1.out.size
    have hlt1 := hT1.lt
    exact ⟨ba, bc, rfl, ownsRow_base (ownsRow_gr hrow.out hg9 (fun k h1 h2 => by omega)) hsz, Tk.fin hg1.out hg2 hg9⟩

set_option maxRecDepth 100000 in
set_option maxHeartbeats 4000000 in
theorem tokr_txt (W : World) (s : ByteArray) (i : Nat) (hs : s.size ≤ 60000) (hi : i < s.size) (hd : pk s i = 34) :
    Calls Tryd.prog 21 #[.string s, .int .i64 (i : Int)] W fun e w' => EndR W e w' (tokV s i) := by
  have hsI : (s.size : Int) ≤ 60000 := by omega
  have hiI : (i : Int) < (s.size : Int) := by omega
  have hx := ix s i hi
  have hpk := pk_lt_size hi
  have hc := fun w => text_c w s i hs hi hd
  rw [hpk] at hd
  rw [hd] at hx
  generalize tokV s i = r at hc ⊢
  clear hpk
  rcases r with c | ⟨t, j⟩
  · go_enter Tryd.func21, Tryd.ntmps21
    go_wp2_with (first | (go_at_call 26; refine (between_c _ _ _ _).mono ?_; rw [show btw 34 48 57 = false from rfl]; rintro e w' ⟨rfl, rfl⟩) | fail)
    generalize hW1 : W.alloc _ = w1
    have hT1 : Tk w1 W.heap.size 0 e0 0 nl 0 := hW1 ▸ heap_alloc_new W _
    have hg1 : Hid (Gr (fun _ => False) W w1) := hW1 ▸ Gr.alloc _ _ _
    clear hW1
    refine (hc w1).mono ?_
    rintro e w2 ⟨⟨q, rfl⟩, hg2⟩
    have hT2 := hT1.gr hg2 (fun e => e)
    have hlb := hT2.lt
    obtain ⟨⟨t0, t1, t2, t3, t4⟩, u0, u1, u2, u3, u4⟩ := hT2.facts
    go_wp2_with fail
    generalize hX9 : World.setCell _ _ _ = w9
    obtain ⟨hT9, hg9⟩ := hT2.put 0 e0 0 nl 0 w9 hX9
    clear hX9 t0 t1 t2 t3 t4 u0 u1 u2 u3 u4
    obtain ⟨⟨t0, t1, t2, t3, t4⟩, -⟩ := hT9.facts
    refine bodyPost_ret (v := .tuple #[tkv 0 e0 0 nl 0, .int .i64 q, .int .i64 c]) (by simp [results, Tryd.results21, go_sem, t0, t1, t2, t3, t4]) rfl ?_
    exact ⟨⟨_, rfl⟩, Tk.fin hg1.out hg2 hg9⟩
  · go_enter Tryd.func21, Tryd.ntmps21
    go_wp2_with (first | (go_at_call 26; refine (between_c _ _ _ _).mono ?_; rw [show btw 34 48 57 = false from rfl]; rintro e w' ⟨rfl, rfl⟩) | fail)
    generalize hW1 : W.alloc _ = w1
    have hT1 : Tk w1 W.heap.size 0 e0 0 nl 0 := hW1 ▸ heap_alloc_new W _
    have hg1 : Hid (Gr (fun _ => False) W w1) := hW1 ▸ Gr.alloc _ _ _
    clear hW1
    refine (hc w1).mono ?_
    rintro e w2 ⟨ba, bc, rfl, hrow, hg2⟩
    have hT2 := hT1.gr hg2 (fun e => e)
    have hlb := hT2.lt
    obtain ⟨⟨t0, t1, t2, t3, t4⟩, u0, u1, u2, u3, u4⟩ := hT2.facts
    replace hrow := Lib.hid hrow
    go_wp2_with fail
    generalize hX9 : World.setCell _ _ _ = w9
    obtain ⟨hT9, hg9⟩ := hT2.put t.k t.s t.n (.slice ba t.b.length bc) t.at' w9 hX9
    clear hX9 t0 t1 t2 t3 t4 u0 u1 u2 u3 u4
    obtain ⟨⟨t0, t1, t2, t3, t4⟩, -⟩ := hT9.facts
    refine bodyPost_ret (v := .tuple #[tkv t.k t.s t.n (.slice ba t.b.length bc) t.at', .int .i64 (j : Int), .int .i64 0]) (by simp [results, Tryd.results21, go_sem, t0, t1, t2, t3, t4]) rfl ?_
    have hsz := hg1.out.size
    have hlt1 := hT1.lt
    exact ⟨ba, bc, rfl, ownsRow_base (ownsRow_gr hrow.out hg9 (fun k h1 h2 => by omega)) hsz, Tk.fin hg1.out hg2 hg9⟩

set_option maxRecDepth 100000 in
set_option maxHeartbeats 4000000 in
theorem tokr_ne (W : World) (s : ByteArray) (i : Nat) (hs : s.size ≤ 60000) (hi : i < s.size) (h1 : dig (pk s i) = false) (h2 : pk s i ≠ 34) (hin : inN (pk s i) = true) (j : Nat) (hj : span inN s i = j) (hq : 32 < j - i) :
    Calls Tryd.prog 21 #[.string s, .int .i64 (i : Int)] W fun e w' => EndR W e w' (.error 153) := by
  have hsI : (s.size : Int) ≤ 60000 := by omega
  have hiI : (i : Int) < (s.size : Int) := by omega
  have hx := ix s i hi
  have hpk := pk_lt_size hi
  rw [hpk] at h1 h2
  have hy := span_yes (p := inN) hin rfl
  have hj1 : Hid (i + 1 ≤ j ∧ j ≤ s.size) := by
    have a := span_ge inN s (i + 1)
    have b := span_le (p := inN) (s := s) (i := i) (by omega)
    rw [hj] at b
    rw [← hy.2, hj] at a
    exact ⟨a, b⟩
  rw [hpk] at hin
  have hall : Hid (∀ k, i ≤ k → k < j → inN (bt s k) = true) := by rw [← hj]; exact Lib.hid (fun k a b => span_all (p := inN) (s := s) (i := i) k a b)
  have hstop : Hid (j < s.size → inN (bt s j) = false) := Lib.hid (fun h => by have := span_end inN rfl s i; rw [hj, pk_lt_size h] at this; exact this)
  obtain ⟨c, hc⟩ : ∃ c, bt s i = c := ⟨_, rfl⟩
  rw [hc] at hx h1 h2 hin
  have Hc := Lib.hid hc
  have h2' : (c == 34) = false := by simpa using h2
  replace hq := Lib.hid hq
  clear hy hj hc hpk h2 hs hi
  go_enter Tryd.func21, Tryd.ntmps21
  go_wp2_with (first | (go_at_call 26; refine (between_c _ _ _ _).mono ?_; rw [btw_dig, h1]; rintro e w' ⟨rfl, rfl⟩) | (go_at_call 38; refine (namer_c _ _).mono ?_; rw [hin]; rintro e w' ⟨rfl, rfl⟩) | fail)
  generalize hW1 : W.alloc _ = w1
  have hT1 : Tk w1 W.heap.size 0 e0 0 nl 0 := hW1 ▸ heap_alloc_new W _
  have hg1 : Hid (Gr (fun _ => False) W w1) := hW1 ▸ Gr.alloc _ _ _
  clear hW1
  obtain ⟨b1, hb1⟩ : ∃ b, W.heap.size = b := ⟨_, rfl⟩
  have hfin : Hid (∀ w9, Gr (fun k => b1 ≤ k) w1 w9 → Gr (fun _ => False) W w9) := Lib.hid (fun w9 g => hg1.out.trans' g (fun j hj e => by omega))
  rw [hb1] at hT1 ⊢
  clear hb1
  go_loopw [8] (fun u wr => ∃ k : Nat, i ≤ k ∧ u = .int .i64 (k : Int) ∧ Hid (k ≤ j) ∧ wr = w1) (fun u _ => s.size - (intOf u).toNat)
  case atStart => exact ⟨i, Nat.le_refl _, rfl, by have := hj1.out; show _ ≤ _; omega, rfl⟩
  case round =>
    obtain ⟨k, hik, rfl, hkj, rfl⟩ := hrel
    by_cases hlt : k < j
    · have hks : k < s.size := by have := hj1.out; omega
      have hkI : (k : Int) < (s.size : Int) := by omega
      have hy := ix s k hks
      have hin2 := fun w => namer_c (bt s k) w
      rw [hall.out k hik hlt] at hin2
      go_wp2_with fail
      refine (hin2 _).mono ?_
      rintro e w' ⟨rfl, rfl⟩
      go_wp2_with fail
      exact ⟨⟨k + 1, by omega, by go_num, by show _ ≤ _; omega, trivial⟩, by simp [intOf]; omega⟩
    · obtain rfl : k = j := by have := hkj.out; omega
      have hsl := sl s i k (by omega) hj1.out.2
      have hkI2 : (k : Int) ≤ 60000 := by have := hj1.out; omega
      by_cases hks : k < s.size
      · have hkI : (k : Int) < (s.size : Int) := by omega
        have hy := ix s k hks
        have hin2 := fun w => namer_c (bt s k) w
        rw [hstop.out hks] at hin2
        go_wp2_with fail
        refine (hin2 _).mono ?_
        rintro e w' ⟨rfl, rfl⟩
        have hqI : 32 < (k : Int) - (i : Int) := by have := hq.out; omega
        have hlb := hT1.lt
        obtain ⟨⟨t0, t1, t2, t3, t4⟩, u0, u1, u2, u3, u4⟩ := hT1.facts
        go_wp2_with fail
        generalize hX9 : World.setCell _ _ _ = w9
        obtain ⟨hT9, hg9⟩ := hT1.put 0 e0 0 nl 0 w9 hX9
        generalize hY : World.alloc w9 _ = w10
        have hT10 : Tk w10 b1 0 e0 0 nl 0 := hY ▸ hT9.gr (Gr.alloc w9 _ (fun _ => False)) (fun e => e)
        have hg10 : Gr (fun _ => False) w9 w10 := hY ▸ Gr.alloc w9 _ (fun _ => False)
        clear hX9 hY t0 t1 t2 t3 t4 u0 u1 u2 u3 u4
        obtain ⟨⟨t0, t1, t2, t3, t4⟩, -⟩ := hT10.facts
        refine bodyPost_ret (v := .tuple #[tkv 0 e0 0 nl 0, .int .i64 (k : Int), .int .i64 153]) (by simp [results, Tryd.results21, go_sem, t0, t1, t2, t3, t4]) rfl ?_
        exact ⟨⟨_, rfl⟩, hfin.out w10 ((hg9.mono (fun q _ e => by omega)).trans (hg10.any _))⟩
      · have hkI : decide ((k : Int) < (s.size : Int)) = false := by simp; omega
        have hqI : 32 < (k : Int) - (i : Int) := by have := hq.out; omega
        have hlb := hT1.lt
        obtain ⟨⟨t0, t1, t2, t3, t4⟩, u0, u1, u2, u3, u4⟩ := hT1.facts
        go_wp2_with fail
        generalize hX9 : World.setCell _ _ _ = w9
        obtain ⟨hT9, hg9⟩ := hT1.put 0 e0 0 nl 0 w9 hX9
        generalize hY : World.alloc w9 _ = w10
        have hT10 : Tk w10 b1 0 e0 0 nl 0 := hY ▸ hT9.gr (Gr.alloc w9 _ (fun _ => False)) (fun e => e)
        have hg10 : Gr (fun _ => False) w9 w10 := hY ▸ Gr.alloc w9 _ (fun _ => False)
        clear hX9 hY t0 t1 t2 t3 t4 u0 u1 u2 u3 u4
        obtain ⟨⟨t0, t1, t2, t3, t4⟩, -⟩ := hT10.facts
        refine bodyPost_ret (v := .tuple #[tkv 0 e0 0 nl 0, .int .i64 (k : Int), .int .i64 153]) (by simp [results, Tryd.results21, go_sem, t0, t1, t2, t3, t4]) rfl ?_
        exact ⟨⟨_, rfl⟩, hfin.out w10 ((hg9.mono (fun q _ e => by omega)).trans (hg10.any _))⟩

set_option maxRecDepth 100000 in
set_option maxHeartbeats 4000000 in
theorem tokr_nv (W : World) (s : ByteArray) (i : Nat) (hs : s.size ≤ 60000) (hi : i < s.size) (h1 : dig (pk s i) = false) (h2 : pk s i ≠ 34) (hin : inN (pk s i) = true) (j : Nat) (hj : span inN s i = j) (hq : ¬ 32 < j - i) (hlo : low (pk s i) = false) :
    Calls Tryd.prog 21 #[.string s, .int .i64 (i : Int)] W fun e w' => EndR W e w' (.ok (⟨3, s.extract i j, 0, [], i⟩, j)) := by
  have hsI : (s.size : Int) ≤ 60000 := by omega
  have hiI : (i : Int) < (s.size : Int) := by omega
  have hx := ix s i hi
  have hpk := pk_lt_size hi
  rw [hpk] at h1 h2
  have hy := span_yes (p := inN) hin rfl
  have hj1 : Hid (i + 1 ≤ j ∧ j ≤ s.size) := by
    have a := span_ge inN s (i + 1)
    have b := span_le (p := inN) (s := s) (i := i) (by omega)
    rw [hj] at b
    rw [← hy.2, hj] at a
    exact ⟨a, b⟩
  rw [hpk] at hin
  have hall : Hid (∀ k, i ≤ k → k < j → inN (bt s k) = true) := by rw [← hj]; exact Lib.hid (fun k a b => span_all (p := inN) (s := s) (i := i) k a b)
  have hstop : Hid (j < s.size → inN (bt s j) = false) := Lib.hid (fun h => by have := span_end inN rfl s i; rw [hj, pk_lt_size h] at this; exact this)
  obtain ⟨c, hc⟩ : ∃ c, bt s i = c := ⟨_, rfl⟩
  rw [hc] at hx h1 h2 hin
  have Hc := Lib.hid hc
  have h2' : (c == 34) = false := by simpa using h2
  replace hq := Lib.hid hq
  rw [hpk, hc] at hlo
  obtain ⟨nm, hnm⟩ : ∃ nm, s.extract i j = nm := ⟨_, rfl⟩
  have Hnm := Lib.hid hnm
  rw [hnm]
  clear hnm
  clear hy hj hc hpk h2 hs hi
  go_enter Tryd.func21, Tryd.ntmps21
  go_wp2_with (first | (go_at_call 26; refine (between_c _ _ _ _).mono ?_; rw [btw_dig, h1]; rintro e w' ⟨rfl, rfl⟩) | (go_at_call 38; refine (namer_c _ _).mono ?_; rw [hin]; rintro e w' ⟨rfl, rfl⟩) | fail)
  generalize hW1 : W.alloc _ = w1
  have hT1 : Tk w1 W.heap.size 0 e0 0 nl 0 := hW1 ▸ heap_alloc_new W _
  have hg1 : Hid (Gr (fun _ => False) W w1) := hW1 ▸ Gr.alloc _ _ _
  clear hW1
  obtain ⟨b1, hb1⟩ : ∃ b, W.heap.size = b := ⟨_, rfl⟩
  have hfin : Hid (∀ w9, Gr (fun k => b1 ≤ k) w1 w9 → Gr (fun _ => False) W w9) := Lib.hid (fun w9 g => hg1.out.trans' g (fun j hj e => by omega))
  rw [hb1] at hT1 ⊢
  clear hb1
  go_loopw [8] (fun u wr => ∃ k : Nat, i ≤ k ∧ u = .int .i64 (k : Int) ∧ Hid (k ≤ j) ∧ wr = w1) (fun u _ => s.size - (intOf u).toNat)
  case atStart => exact ⟨i, Nat.le_refl _, rfl, by have := hj1.out; show _ ≤ _; omega, rfl⟩
  case round =>
    obtain ⟨k, hik, rfl, hkj, rfl⟩ := hrel
    by_cases hlt : k < j
    · have hks : k < s.size := by have := hj1.out; omega
      have hkI : (k : Int) < (s.size : Int) := by omega
      have hy := ix s k hks
      have hin2 := fun w => namer_c (bt s k) w
      rw [hall.out k hik hlt] at hin2
      go_wp2_with fail
      refine (hin2 _).mono ?_
      rintro e w' ⟨rfl, rfl⟩
      go_wp2_with fail
      exact ⟨⟨k + 1, by omega, by go_num, by show _ ≤ _; omega, trivial⟩, by simp [intOf]; omega⟩
    · obtain rfl : k = j := by have := hkj.out; omega
      have hsl := sl s i k (by omega) hj1.out.2
      have hkI2 : (k : Int) ≤ 60000 := by have := hj1.out; omega
      by_cases hks : k < s.size
      · have hkI : (k : Int) < (s.size : Int) := by omega
        have hy := ix s k hks
        have hin2 := fun w => namer_c (bt s k) w
        rw [hstop.out hks] at hin2
        go_wp2_with fail
        refine (hin2 _).mono ?_
        rintro e w' ⟨rfl, rfl⟩
        have hqI : decide (32 < (k : Int) - (i : Int)) = false := by have := hq.out; simp; omega
        have hnm := Hnm.out
        rw [hnm] at hsl
        clear hnm
        go_wp2_with fail
        generalize hW2 : World.alloc wr _ = w2
        have hA2 : Tk w2 b1 0 e0 0 nl 0 := hW2 ▸ hT1.gr (Gr.alloc wr _ (fun _ => False)) (fun e => e)
        have hB2 : Tk w2 wr.heap.size 3 nm 0 nl i := hW2 ▸ heap_alloc_new wr _
        have hg2 : Hid (Gr (fun _ => False) wr w2) := hW2 ▸ Gr.alloc _ _ _
        have hbne : wr.heap.size ≠ b1 := by have := hT1.lt; omega
        have hb12 : Hid (b1 ≤ wr.heap.size) := by have := hT1.lt; show _ ≤ _; omega
        clear hW2
        obtain ⟨b2, hb2⟩ : ∃ b, wr.heap.size = b := ⟨_, rfl⟩
        rw [hb2] at hB2 hbne hb12 ⊢
        clear hb2
        refine (between_c _ _ _ _).mono ?_
        rw [btw_low, hlo]
        rintro e w' ⟨rfl, rfl⟩
        have l2 := hB2.lt
        obtain ⟨⟨c0, c1, c2, c3, c4⟩, f0, f1, f2, f3, f4⟩ := hB2.facts
        have l1 := hA2.lt
        obtain ⟨⟨t0, t1, t2, t3, t4⟩, u0, u1, u2, u3, u4⟩ := hA2.facts
        go_wp2_with fail
        generalize hX9 : World.setCell _ _ _ = w9
        obtain ⟨hT9, hg9⟩ := hA2.put 3 nm 0 nl i w9 hX9
        clear hX9 t0 t1 t2 t3 t4 u0 u1 u2 u3 u4
        obtain ⟨⟨t0, t1, t2, t3, t4⟩, -⟩ := hT9.facts
        refine bodyPost_ret (v := .tuple #[tkv 3 nm 0 nl i, .int .i64 (k : Int), .int .i64 0]) (by simp [results, Tryd.results21, go_sem, t0, t1, t2, t3, t4]) rfl ?_
        exact ⟨none, 0, rfl, World.ownsRow_nil _ _ _ _, hfin.out w9 ((hg2.out.any _).trans (hg9.mono (fun q _ e => by omega)))⟩
      · have hkI : decide ((k : Int) < (s.size : Int)) = false := by simp; omega
        have hqI : decide (32 < (k : Int) - (i : Int)) = false := by have := hq.out; simp; omega
        have hnm := Hnm.out
        rw [hnm] at hsl
        clear hnm
        go_wp2_with fail
        generalize hW2 : World.alloc wr _ = w2
        have hA2 : Tk w2 b1 0 e0 0 nl 0 := hW2 ▸ hT1.gr (Gr.alloc wr _ (fun _ => False)) (fun e => e)
        have hB2 : Tk w2 wr.heap.size 3 nm 0 nl i := hW2 ▸ heap_alloc_new wr _
        have hg2 : Hid (Gr (fun _ => False) wr w2) := hW2 ▸ Gr.alloc _ _ _
        have hbne : wr.heap.size ≠ b1 := by have := hT1.lt; omega
        have hb12 : Hid (b1 ≤ wr.heap.size) := by have := hT1.lt; show _ ≤ _; omega
        clear hW2
        obtain ⟨b2, hb2⟩ : ∃ b, wr.heap.size = b := ⟨_, rfl⟩
        rw [hb2] at hB2 hbne hb12 ⊢
        clear hb2
        refine (between_c _ _ _ _).mono ?_
        rw [btw_low, hlo]
        rintro e w' ⟨rfl, rfl⟩
        have l2 := hB2.lt
        obtain ⟨⟨c0, c1, c2, c3, c4⟩, f0, f1, f2, f3, f4⟩ := hB2.facts
        have l1 := hA2.lt
        obtain ⟨⟨t0, t1, t2, t3, t4⟩, u0, u1, u2, u3, u4⟩ := hA2.facts
        go_wp2_with fail
        generalize hX9 : World.setCell _ _ _ = w9
        obtain ⟨hT9, hg9⟩ := hA2.put 3 nm 0 nl i w9 hX9
        clear hX9 t0 t1 t2 t3 t4 u0 u1 u2 u3 u4
        obtain ⟨⟨t0, t1, t2, t3, t4⟩, -⟩ := hT9.facts
        refine bodyPost_ret (v := .tuple #[tkv 3 nm 0 nl i, .int .i64 (k : Int), .int .i64 0]) (by simp [results, Tryd.results21, go_sem, t0, t1, t2, t3, t4]) rfl ?_
        exact ⟨none, 0, rfl, World.ownsRow_nil _ _ _ _, hfin.out w9 ((hg2.out.any _).trans (hg9.mono (fun q _ e => by omega)))⟩

set_option maxRecDepth 100000 in
set_option maxHeartbeats 4000000 in
theorem tokr_nlo (W : World) (s : ByteArray) (i : Nat) (hs : s.size ≤ 60000) (hi : i < s.size) (h1 : dig (pk s i) = false) (h2 : pk s i ≠ 34) (hin : inN (pk s i) = true) (j : Nat) (hj : span inN s i = j) (hq : ¬ 32 < j - i) (hlo : low (pk s i) = true) (hw : wrd (s.extract i j) = false) :
    Calls Tryd.prog 21 #[.string s, .int .i64 (i : Int)] W fun e w' => EndR W e w' (.ok (⟨2, s.extract i j, 0, [], i⟩, j)) := by
  have hsI : (s.size : Int) ≤ 60000 := by omega
  have hiI : (i : Int) < (s.size : Int) := by omega
  have hx := ix s i hi
  have hpk := pk_lt_size hi
  rw [hpk] at h1 h2
  have hy := span_yes (p := inN) hin rfl
  have hj1 : Hid (i + 1 ≤ j ∧ j ≤ s.size) := by
    have a := span_ge inN s (i + 1)
    have b := span_le (p := inN) (s := s) (i := i) (by omega)
    rw [hj] at b
    rw [← hy.2, hj] at a
    exact ⟨a, b⟩
  rw [hpk] at hin
  have hall : Hid (∀ k, i ≤ k → k < j → inN (bt s k) = true) := by rw [← hj]; exact Lib.hid (fun k a b => span_all (p := inN) (s := s) (i := i) k a b)
  have hstop : Hid (j < s.size → inN (bt s j) = false) := Lib.hid (fun h => by have := span_end inN rfl s i; rw [hj, pk_lt_size h] at this; exact this)
  obtain ⟨c, hc⟩ : ∃ c, bt s i = c := ⟨_, rfl⟩
  rw [hc] at hx h1 h2 hin
  have Hc := Lib.hid hc
  have h2' : (c == 34) = false := by simpa using h2
  replace hq := Lib.hid hq
  rw [hpk, hc] at hlo
  have hwc := fun w => wordr_c (s.extract i j) w
  rw [hw] at hwc
  clear hw
  obtain ⟨nm, hnm⟩ : ∃ nm, s.extract i j = nm := ⟨_, rfl⟩
  have Hnm := Lib.hid hnm
  rw [hnm] at hwc ⊢
  clear hnm
  clear hy hj hc hpk h2 hs hi
  go_enter Tryd.func21, Tryd.ntmps21
  go_wp2_with (first | (go_at_call 26; refine (between_c _ _ _ _).mono ?_; rw [btw_dig, h1]; rintro e w' ⟨rfl, rfl⟩) | (go_at_call 38; refine (namer_c _ _).mono ?_; rw [hin]; rintro e w' ⟨rfl, rfl⟩) | fail)
  generalize hW1 : W.alloc _ = w1
  have hT1 : Tk w1 W.heap.size 0 e0 0 nl 0 := hW1 ▸ heap_alloc_new W _
  have hg1 : Hid (Gr (fun _ => False) W w1) := hW1 ▸ Gr.alloc _ _ _
  clear hW1
  obtain ⟨b1, hb1⟩ : ∃ b, W.heap.size = b := ⟨_, rfl⟩
  have hfin : Hid (∀ w9, Gr (fun k => b1 ≤ k) w1 w9 → Gr (fun _ => False) W w9) := Lib.hid (fun w9 g => hg1.out.trans' g (fun j hj e => by omega))
  rw [hb1] at hT1 ⊢
  clear hb1
  go_loopw [8] (fun u wr => ∃ k : Nat, i ≤ k ∧ u = .int .i64 (k : Int) ∧ Hid (k ≤ j) ∧ wr = w1) (fun u _ => s.size - (intOf u).toNat)
  case atStart => exact ⟨i, Nat.le_refl _, rfl, by have := hj1.out; show _ ≤ _; omega, rfl⟩
  case round =>
    obtain ⟨k, hik, rfl, hkj, rfl⟩ := hrel
    by_cases hlt : k < j
    · have hks : k < s.size := by have := hj1.out; omega
      have hkI : (k : Int) < (s.size : Int) := by omega
      have hy := ix s k hks
      have hin2 := fun w => namer_c (bt s k) w
      rw [hall.out k hik hlt] at hin2
      go_wp2_with fail
      refine (hin2 _).mono ?_
      rintro e w' ⟨rfl, rfl⟩
      go_wp2_with fail
      exact ⟨⟨k + 1, by omega, by go_num, by show _ ≤ _; omega, trivial⟩, by simp [intOf]; omega⟩
    · obtain rfl : k = j := by have := hkj.out; omega
      have hsl := sl s i k (by omega) hj1.out.2
      have hkI2 : (k : Int) ≤ 60000 := by have := hj1.out; omega
      by_cases hks : k < s.size
      · have hkI : (k : Int) < (s.size : Int) := by omega
        have hy := ix s k hks
        have hin2 := fun w => namer_c (bt s k) w
        rw [hstop.out hks] at hin2
        go_wp2_with fail
        refine (hin2 _).mono ?_
        rintro e w' ⟨rfl, rfl⟩
        have hqI : decide (32 < (k : Int) - (i : Int)) = false := by have := hq.out; simp; omega
        have hnm := Hnm.out
        rw [hnm] at hsl
        clear hnm
        go_wp2_with fail
        generalize hW2 : World.alloc wr _ = w2
        have hA2 : Tk w2 b1 0 e0 0 nl 0 := hW2 ▸ hT1.gr (Gr.alloc wr _ (fun _ => False)) (fun e => e)
        have hB2 : Tk w2 wr.heap.size 3 nm 0 nl i := hW2 ▸ heap_alloc_new wr _
        have hg2 : Hid (Gr (fun _ => False) wr w2) := hW2 ▸ Gr.alloc _ _ _
        have hbne : wr.heap.size ≠ b1 := by have := hT1.lt; omega
        have hb12 : Hid (b1 ≤ wr.heap.size) := by have := hT1.lt; show _ ≤ _; omega
        clear hW2
        obtain ⟨b2, hb2⟩ : ∃ b, wr.heap.size = b := ⟨_, rfl⟩
        rw [hb2] at hB2 hbne hb12 ⊢
        clear hb2
        refine (between_c _ _ _ _).mono ?_
        rw [btw_low, hlo]
        rintro e w' ⟨rfl, rfl⟩
        have l2 := hB2.lt
        obtain ⟨⟨c0, c1, c2, c3, c4⟩, f0, f1, f2, f3, f4⟩ := hB2.facts
        go_wp2_with fail
        generalize hX : World.setCell w2 _ _ = X
        have hBX : Tk X b2 2 nm 0 nl i := hX ▸ hB2.setK 2
        have hgX : Gr (fun q => q = b2) w2 X := hX ▸ Gr.set _ _ _ rfl
        have hAX := hA2.gr hgX (fun e => hbne e.symm)
        clear hX l2 c0 c1 c2 c3 c4 f0 f1 f2 f3 f4
        have l2 := hBX.lt
        obtain ⟨⟨c0, c1, c2, c3, c4⟩, f0, f1, f2, f3, f4⟩ := hBX.facts
        refine (hwc _).mono ?_
        rintro e w' ⟨rfl, rfl⟩
        have l1 := hAX.lt
        obtain ⟨⟨t0, t1, t2, t3, t4⟩, u0, u1, u2, u3, u4⟩ := hAX.facts
        go_wp2_with fail
        generalize hX9 : World.setCell _ _ _ = w9
        obtain ⟨hT9, hg9⟩ := hAX.put 2 nm 0 nl i w9 hX9
        clear hX9 t0 t1 t2 t3 t4 u0 u1 u2 u3 u4
        obtain ⟨⟨t0, t1, t2, t3, t4⟩, -⟩ := hT9.facts
        refine bodyPost_ret (v := .tuple #[tkv 2 nm 0 nl i, .int .i64 (k : Int), .int .i64 0]) (by simp [results, Tryd.results21, go_sem, t0, t1, t2, t3, t4]) rfl ?_
        exact ⟨none, 0, rfl, World.ownsRow_nil _ _ _ _, hfin.out w9 (((hg2.out.any _).trans (hgX.mono (fun q _ e => by have := hb12.out; omega))).trans (hg9.mono (fun q _ e => by omega)))⟩
      · have hkI : decide ((k : Int) < (s.size : Int)) = false := by simp; omega
        have hqI : decide (32 < (k : Int) - (i : Int)) = false := by have := hq.out; simp; omega
        have hnm := Hnm.out
        rw [hnm] at hsl
        clear hnm
        go_wp2_with fail
        generalize hW2 : World.alloc wr _ = w2
        have hA2 : Tk w2 b1 0 e0 0 nl 0 := hW2 ▸ hT1.gr (Gr.alloc wr _ (fun _ => False)) (fun e => e)
        have hB2 : Tk w2 wr.heap.size 3 nm 0 nl i := hW2 ▸ heap_alloc_new wr _
        have hg2 : Hid (Gr (fun _ => False) wr w2) := hW2 ▸ Gr.alloc _ _ _
        have hbne : wr.heap.size ≠ b1 := by have := hT1.lt; omega
        have hb12 : Hid (b1 ≤ wr.heap.size) := by have := hT1.lt; show _ ≤ _; omega
        clear hW2
        obtain ⟨b2, hb2⟩ : ∃ b, wr.heap.size = b := ⟨_, rfl⟩
        rw [hb2] at hB2 hbne hb12 ⊢
        clear hb2
        refine (between_c _ _ _ _).mono ?_
        rw [btw_low, hlo]
        rintro e w' ⟨rfl, rfl⟩
        have l2 := hB2.lt
        obtain ⟨⟨c0, c1, c2, c3, c4⟩, f0, f1, f2, f3, f4⟩ := hB2.facts
        go_wp2_with fail
        generalize hX : World.setCell w2 _ _ = X
        have hBX : Tk X b2 2 nm 0 nl i := hX ▸ hB2.setK 2
        have hgX : Gr (fun q => q = b2) w2 X := hX ▸ Gr.set _ _ _ rfl
        have hAX := hA2.gr hgX (fun e => hbne e.symm)
        clear hX l2 c0 c1 c2 c3 c4 f0 f1 f2 f3 f4
        have l2 := hBX.lt
        obtain ⟨⟨c0, c1, c2, c3, c4⟩, f0, f1, f2, f3, f4⟩ := hBX.facts
        refine (hwc _).mono ?_
        rintro e w' ⟨rfl, rfl⟩
        have l1 := hAX.lt
        obtain ⟨⟨t0, t1, t2, t3, t4⟩, u0, u1, u2, u3, u4⟩ := hAX.facts
        go_wp2_with fail
        generalize hX9 : World.setCell _ _ _ = w9
        obtain ⟨hT9, hg9⟩ := hAX.put 2 nm 0 nl i w9 hX9
        clear hX9 t0 t1 t2 t3 t4 u0 u1 u2 u3 u4
        obtain ⟨⟨t0, t1, t2, t3, t4⟩, -⟩ := hT9.facts
        refine bodyPost_ret (v := .tuple #[tkv 2 nm 0 nl i, .int .i64 (k : Int), .int .i64 0]) (by simp [results, Tryd.results21, go_sem, t0, t1, t2, t3, t4]) rfl ?_
        exact ⟨none, 0, rfl, World.ownsRow_nil _ _ _ _, hfin.out w9 (((hg2.out.any _).trans (hgX.mono (fun q _ e => by have := hb12.out; omega))).trans (hg9.mono (fun q _ e => by omega)))⟩

set_option maxRecDepth 100000 in
set_option maxHeartbeats 4000000 in
theorem tokr_nlw (W : World) (s : ByteArray) (i : Nat) (hs : s.size ≤ 60000) (hi : i < s.size) (h1 : dig (pk s i) = false) (h2 : pk s i ≠ 34) (hin : inN (pk s i) = true) (j : Nat) (hj : span inN s i = j) (hq : ¬ 32 < j - i) (hlo : low (pk s i) = true) (hw : wrd (s.extract i j) = true) :
    Calls Tryd.prog 21 #[.string s, .int .i64 (i : Int)] W fun e w' => EndR W e w' (.ok (⟨6, s.extract i j, 0, [], i⟩, j)) := by
  have hsI : (s.size : Int) ≤ 60000 := by omega
  have hiI : (i : Int) < (s.size : Int) := by omega
  have hx := ix s i hi
  have hpk := pk_lt_size hi
  rw [hpk] at h1 h2
  have hy := span_yes (p := inN) hin rfl
  have hj1 : Hid (i + 1 ≤ j ∧ j ≤ s.size) := by
    have a := span_ge inN s (i + 1)
    have b := span_le (p := inN) (s := s) (i := i) (by omega)
    rw [hj] at b
    rw [← hy.2, hj] at a
    exact ⟨a, b⟩
  rw [hpk] at hin
  have hall : Hid (∀ k, i ≤ k → k < j → inN (bt s k) = true) := by rw [← hj]; exact Lib.hid (fun k a b => span_all (p := inN) (s := s) (i := i) k a b)
  have hstop : Hid (j < s.size → inN (bt s j) = false) := Lib.hid (fun h => by have := span_end inN rfl s i; rw [hj, pk_lt_size h] at this; exact this)
  obtain ⟨c, hc⟩ : ∃ c, bt s i = c := ⟨_, rfl⟩
  rw [hc] at hx h1 h2 hin
  have Hc := Lib.hid hc
  have h2' : (c == 34) = false := by simpa using h2
  replace hq := Lib.hid hq
  rw [hpk, hc] at hlo
  have hwc := fun w => wordr_c (s.extract i j) w
  rw [hw] at hwc
  clear hw
  obtain ⟨nm, hnm⟩ : ∃ nm, s.extract i j = nm := ⟨_, rfl⟩
  have Hnm := Lib.hid hnm
  rw [hnm] at hwc ⊢
  clear hnm
  clear hy hj hc hpk h2 hs hi
  go_enter Tryd.func21, Tryd.ntmps21
  go_wp2_with (first | (go_at_call 26; refine (between_c _ _ _ _).mono ?_; rw [btw_dig, h1]; rintro e w' ⟨rfl, rfl⟩) | (go_at_call 38; refine (namer_c _ _).mono ?_; rw [hin]; rintro e w' ⟨rfl, rfl⟩) | fail)
  generalize hW1 : W.alloc _ = w1
  have hT1 : Tk w1 W.heap.size 0 e0 0 nl 0 := hW1 ▸ heap_alloc_new W _
  have hg1 : Hid (Gr (fun _ => False) W w1) := hW1 ▸ Gr.alloc _ _ _
  clear hW1
  obtain ⟨b1, hb1⟩ : ∃ b, W.heap.size = b := ⟨_, rfl⟩
  have hfin : Hid (∀ w9, Gr (fun k => b1 ≤ k) w1 w9 → Gr (fun _ => False) W w9) := Lib.hid (fun w9 g => hg1.out.trans' g (fun j hj e => by omega))
  rw [hb1] at hT1 ⊢
  clear hb1
  go_loopw [8] (fun u wr => ∃ k : Nat, i ≤ k ∧ u = .int .i64 (k : Int) ∧ Hid (k ≤ j) ∧ wr = w1) (fun u _ => s.size - (intOf u).toNat)
  case atStart => exact ⟨i, Nat.le_refl _, rfl, by have := hj1.out; show _ ≤ _; omega, rfl⟩
  case round =>
    obtain ⟨k, hik, rfl, hkj, rfl⟩ := hrel
    by_cases hlt : k < j
    · have hks : k < s.size := by have := hj1.out; omega
      have hkI : (k : Int) < (s.size : Int) := by omega
      have hy := ix s k hks
      have hin2 := fun w => namer_c (bt s k) w
      rw [hall.out k hik hlt] at hin2
      go_wp2_with fail
      refine (hin2 _).mono ?_
      rintro e w' ⟨rfl, rfl⟩
      go_wp2_with fail
      exact ⟨⟨k + 1, by omega, by go_num, by show _ ≤ _; omega, trivial⟩, by simp [intOf]; omega⟩
    · obtain rfl : k = j := by have := hkj.out; omega
      have hsl := sl s i k (by omega) hj1.out.2
      have hkI2 : (k : Int) ≤ 60000 := by have := hj1.out; omega
      by_cases hks : k < s.size
      · have hkI : (k : Int) < (s.size : Int) := by omega
        have hy := ix s k hks
        have hin2 := fun w => namer_c (bt s k) w
        rw [hstop.out hks] at hin2
        go_wp2_with fail
        refine (hin2 _).mono ?_
        rintro e w' ⟨rfl, rfl⟩
        have hqI : decide (32 < (k : Int) - (i : Int)) = false := by have := hq.out; simp; omega
        have hnm := Hnm.out
        rw [hnm] at hsl
        clear hnm
        go_wp2_with fail
        generalize hW2 : World.alloc wr _ = w2
        have hA2 : Tk w2 b1 0 e0 0 nl 0 := hW2 ▸ hT1.gr (Gr.alloc wr _ (fun _ => False)) (fun e => e)
        have hB2 : Tk w2 wr.heap.size 3 nm 0 nl i := hW2 ▸ heap_alloc_new wr _
        have hg2 : Hid (Gr (fun _ => False) wr w2) := hW2 ▸ Gr.alloc _ _ _
        have hbne : wr.heap.size ≠ b1 := by have := hT1.lt; omega
        have hb12 : Hid (b1 ≤ wr.heap.size) := by have := hT1.lt; show _ ≤ _; omega
        clear hW2
        obtain ⟨b2, hb2⟩ : ∃ b, wr.heap.size = b := ⟨_, rfl⟩
        rw [hb2] at hB2 hbne hb12 ⊢
        clear hb2
        refine (between_c _ _ _ _).mono ?_
        rw [btw_low, hlo]
        rintro e w' ⟨rfl, rfl⟩
        have l2 := hB2.lt
        obtain ⟨⟨c0, c1, c2, c3, c4⟩, f0, f1, f2, f3, f4⟩ := hB2.facts
        go_wp2_with fail
        generalize hX : World.setCell w2 _ _ = X
        have hBX : Tk X b2 2 nm 0 nl i := hX ▸ hB2.setK 2
        have hgX : Gr (fun q => q = b2) w2 X := hX ▸ Gr.set _ _ _ rfl
        have hAX := hA2.gr hgX (fun e => hbne e.symm)
        clear hX l2 c0 c1 c2 c3 c4 f0 f1 f2 f3 f4
        have l2 := hBX.lt
        obtain ⟨⟨c0, c1, c2, c3, c4⟩, f0, f1, f2, f3, f4⟩ := hBX.facts
        refine (hwc _).mono ?_
        rintro e w' ⟨rfl, rfl⟩
        have hBY := hBX.setK 6
        have hgY : Gr (fun q => q = b2) X (X.setCell ⟨b2, 0, none⟩ (.int .i64 6)) := Gr.set _ _ _ rfl
        have hAY := hAX.gr hgY (fun e => hbne e.symm)
        have l1 := hAX.lt
        obtain ⟨⟨t0, t1, t2, t3, t4⟩, u0, u1, u2, u3, u4⟩ := hAX.facts
        go_wp2_with fail
        generalize hX9 : World.setCell _ _ _ = w9
        obtain ⟨hT9, hg9⟩ := hAY.put 6 nm 0 nl i w9 hX9
        clear hX9 t0 t1 t2 t3 t4 u0 u1 u2 u3 u4
        obtain ⟨⟨t0, t1, t2, t3, t4⟩, -⟩ := hT9.facts
        refine bodyPost_ret (v := .tuple #[tkv 6 nm 0 nl i, .int .i64 (k : Int), .int .i64 0]) (by simp [results, Tryd.results21, go_sem, t0, t1, t2, t3, t4]) rfl ?_
        exact ⟨none, 0, rfl, World.ownsRow_nil _ _ _ _, hfin.out w9 ((((hg2.out.any _).trans (hgX.mono (fun q _ e => by have := hb12.out; omega))).trans (hgY.mono (fun q _ e => by have := hb12.out; omega))).trans (hg9.mono (fun q _ e => by omega)))⟩
      · have hkI : decide ((k : Int) < (s.size : Int)) = false := by simp; omega
        have hqI : decide (32 < (k : Int) - (i : Int)) = false := by have := hq.out; simp; omega
        have hnm := Hnm.out
        rw [hnm] at hsl
        clear hnm
        go_wp2_with fail
        generalize hW2 : World.alloc wr _ = w2
        have hA2 : Tk w2 b1 0 e0 0 nl 0 := hW2 ▸ hT1.gr (Gr.alloc wr _ (fun _ => False)) (fun e => e)
        have hB2 : Tk w2 wr.heap.size 3 nm 0 nl i := hW2 ▸ heap_alloc_new wr _
        have hg2 : Hid (Gr (fun _ => False) wr w2) := hW2 ▸ Gr.alloc _ _ _
        have hbne : wr.heap.size ≠ b1 := by have := hT1.lt; omega
        have hb12 : Hid (b1 ≤ wr.heap.size) := by have := hT1.lt; show _ ≤ _; omega
        clear hW2
        obtain ⟨b2, hb2⟩ : ∃ b, wr.heap.size = b := ⟨_, rfl⟩
        rw [hb2] at hB2 hbne hb12 ⊢
        clear hb2
        refine (between_c _ _ _ _).mono ?_
        rw [btw_low, hlo]
        rintro e w' ⟨rfl, rfl⟩
        have l2 := hB2.lt
        obtain ⟨⟨c0, c1, c2, c3, c4⟩, f0, f1, f2, f3, f4⟩ := hB2.facts
        go_wp2_with fail
        generalize hX : World.setCell w2 _ _ = X
        have hBX : Tk X b2 2 nm 0 nl i := hX ▸ hB2.setK 2
        have hgX : Gr (fun q => q = b2) w2 X := hX ▸ Gr.set _ _ _ rfl
        have hAX := hA2.gr hgX (fun e => hbne e.symm)
        clear hX l2 c0 c1 c2 c3 c4 f0 f1 f2 f3 f4
        have l2 := hBX.lt
        obtain ⟨⟨c0, c1, c2, c3, c4⟩, f0, f1, f2, f3, f4⟩ := hBX.facts
        refine (hwc _).mono ?_
        rintro e w' ⟨rfl, rfl⟩
        have hBY := hBX.setK 6
        have hgY : Gr (fun q => q = b2) X (X.setCell ⟨b2, 0, none⟩ (.int .i64 6)) := Gr.set _ _ _ rfl
        have hAY := hAX.gr hgY (fun e => hbne e.symm)
        have l1 := hAX.lt
        obtain ⟨⟨t0, t1, t2, t3, t4⟩, u0, u1, u2, u3, u4⟩ := hAX.facts
        go_wp2_with fail
        generalize hX9 : World.setCell _ _ _ = w9
        obtain ⟨hT9, hg9⟩ := hAY.put 6 nm 0 nl i w9 hX9
        clear hX9 t0 t1 t2 t3 t4 u0 u1 u2 u3 u4
        obtain ⟨⟨t0, t1, t2, t3, t4⟩, -⟩ := hT9.facts
        refine bodyPost_ret (v := .tuple #[tkv 6 nm 0 nl i, .int .i64 (k : Int), .int .i64 0]) (by simp [results, Tryd.results21, go_sem, t0, t1, t2, t3, t4]) rfl ?_
        exact ⟨none, 0, rfl, World.ownsRow_nil _ _ _ _, hfin.out w9 ((((hg2.out.any _).trans (hgX.mono (fun q _ e => by have := hb12.out; omega))).trans (hgY.mono (fun q _ e => by have := hb12.out; omega))).trans (hg9.mono (fun q _ e => by omega)))⟩
end Go.Proofs.YtnojhboflegkdaaDoor
