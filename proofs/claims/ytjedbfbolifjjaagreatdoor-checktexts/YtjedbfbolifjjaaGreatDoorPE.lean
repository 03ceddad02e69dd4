/-
  The reference's pattern.
  Formed says what misshapen says not (pure).
-/
import Derived.Test.YtjedbfbolifjjaaGreatDoorMM
import Derived.Test.YtjedbfbolifjjaaGreatDoorKO
import Derived.Test.YtjedbfbolifjjaaGreatDoorMF
set_option linter.unusedVariables false
set_option linter.unusedSimpArgs false
namespace Go.Proofs.YtjedbfbolifjjaaGreatDoor
open Go.RowKit Go.Maps
variable {W W' : World}
def RPatOk (T : Tr) : Prop := ∀ (N : Nat) (W : World) (v : Value), RepG (fun z => z < N) W T v → N ≤ W.heap.size → Calls Tryz.prog 31 #[v] W fun e w' => e = .returned (.bool (patV T)) ∧ Gr (fun _ => False) W w'
set_option maxRecDepth 100000 in
set_option maxHeartbeats 1600000 in
theorem rpat_node (k : Int) (s : ByteArray) (n : Int) (b : List Int) (l : List Tr) (hl : l.length ≤ 4611686018427387904) (h7 : k = 7 → l ≠ []) (ih : ∀ T ∈ l, RPatOk T) : RPatOk (.mk k s n b l) := by
 intro N W v hR hN
 obtain ⟨ba, bc, la, lc, rfl, hrow⟩ := rep_row hR
 have gA := Gr.alloc W (.cells #[.int .i64 k, .string s, .int .i64 n, .slice ba b.length bc, .slice la l.length lc] 25) (fun _ => False)
 obtain ⟨⟨m0, m1, m2, m3, m4⟩, _⟩ := five_cells (heap_alloc_new W (.cells #[.int .i64 k, .string s, .int .i64 n, .slice ba b.length bc, .slice la l.length lc] 25))
 have hsz1 : (W.alloc (.cells #[.int .i64 k, .string s, .int .i64 n, .slice ba b.length bc, .slice la l.length lc] 25)).heap.size = W.heap.size + 1 := by simp
 rw [patV_mk]
 by_cases c1 : k = 1 ∨ k = 2 ∨ k = 3 ∨ k = 4
 ·
  rw [if_pos c1]
  clear hrow hR ih h7
  rcases c1 with rfl | rfl | rfl | rfl
  all_goals
   go_enter Tryz.func31, Tryz.ntmps31
   go_wp2_with fail
   go_ret
   exact ⟨rfl, gA⟩
 rw [if_neg c1]
 by_cases c7 : k = 7
 ·
  subst c7
  rw [if_pos rfl]
  obtain ⟨A, r, rfl⟩ : ∃ A r, l = A :: r := by cases l with
   | nil => exact absurd rfl (h7 rfl)
   | cons A r => exact ⟨A, r, rfl⟩
  obtain ⟨g', o', rfl, hg', hA⟩ := hrow 0 A rfl
  obtain ⟨k', s', n', b', l'⟩ := A
  obtain ⟨ba', bc', la', lc', ⟨y0, y1, y2, y3, y4⟩, hrow', hgl'⟩ := (hA.g0 gA hg').parts
  rw [Nat.zero_mul, Nat.add_zero] at y0
  show Calls Tryz.prog 31 _ W fun e w' => e = .returned (.bool (k' == 1)) ∧ Gr (fun _ => False) W w'
  have hlen : (Tr.mk k' s' n' b' l' :: r).length = r.length + 1 := rfl
  rw [hlen] at m4 y0 hgl' gA ⊢
  have hlI : (r.length : Int) + 1 ≤ 4611686018427387904 := by rw [hlen] at hl; omega
  have hgW : g' < W.heap.size := by omega
  clear hrow hR ih h7 hA y1 y2 y3 y4 hrow' hlen hl c1
  go_enter Tryz.func31, Tryz.ntmps31
  go_wp2_with fail
  go_ret
  exact ⟨rfl, gA⟩
 rw [if_neg c7]
 by_cases c5 : k = 5 ∨ k = 6
 ·
  rw [if_pos c5, patL_all]
  have q5 : (k == 5) = true ∨ (k == 5) = false ∧ (k == 6) = true := by
   rcases c5 with rfl | rfl
   · left; rfl
   · right; exact ⟨rfl, rfl⟩
  obtain ⟨tb, htb⟩ : ∃ tb, W.heap.size = tb := ⟨_, rfl⟩
  rw [htb] at m0 m1 m2 m3 m4 hsz1 hN
  have hlI : (l.length : Int) ≤ 4611686018427387904 := by omega
  have hst : Hid (∀ (i : Nat) (U : Tr), l[i]? = some U → (l.take (i + 1)).all patV = ((l.take i).all patV && patV U)) := fun i U hU => by
   show _ = _
   rw [List.take_add_one, hU, List.all_append]
   simp
  have hsp : Hid (∀ i, l.all patV = ((l.take i).all patV && (l.drop i).all patV)) := fun i => by
   show _ = _
   rw [← List.all_append, List.take_append_drop]
  replace hrow := Lib.hid hrow
  replace ih := Lib.hid ih
  have hgA := Lib.hid gA
  have hm4 := Lib.hid m4
  have hs1 := Lib.hid hsz1
  clear hsz1 gA m1 m2 m3 hR h7 c1 c7 c5
  have key : ∀ W1 : World, W1.cell? ⟨tb, 0, none⟩ = some (.int .i64 k) → True := fun _ _ => trivial
  rcases q5 with q5 | ⟨q5, q6⟩
  all_goals
   go_enter Tryz.func31, Tryz.ntmps31
   go_wp2_with fail
   replace htb := Lib.hid htb
   generalize W.alloc (.cells #[.int .i64 k, .string s, .int .i64 n, .slice ba b.length bc, .slice la l.length lc] 25) = W1 at hgA hm4 hs1 m4 m0 ⊢
   clear m4 m0 key
   go_loopw [3] (fun u wr => ∃ i : Nat, i ≤ l.length ∧ u = .int .i64 (i : Int) ∧ Hid ((l.take i).all patV = true) ∧ Gr (fun _ => False) W1 wr) (fun u _ => l.length - (intOf u).toNat)
   case atStart => exact ⟨0, Nat.zero_le _, rfl, by show _ = _; rw [List.take_zero]; rfl, Gr.refl _ _⟩
   case round =>
    obtain ⟨i, hi, rfl, hno, hG⟩ := hrel
    have y4 := cell_gr hm4.out hG (fun e => e)
    have hs2 := hG.size
    have htl : tb < wr.heap.size := by have := hs1.out; omega
    by_cases hlt : i < l.length
    ·
     have hd : decide ((i : Int) < (l.length : Int)) = true := by simp; omega
     have hiI : (i : Int) < (l.length : Int) := by omega
     have hTi : l[i]? = some l[i] := List.getElem?_eq_getElem hlt
     obtain ⟨g', o', rfl, hg', hTA⟩ := hrow.out i _ hTi
     have hst' := Lib.hid (hst.out i _ hTi)
     have hih := ih.out l[i] (List.getElem_mem hlt)
     generalize l[i] = U at hst' hih hTA
     obtain ⟨v', hRv, ⟨tk, tt, tn, a1, n1, c1, a2, n2, c2, rfl⟩, hcl⟩ := (hTA.g0 (hgA.out.trans hG) hg').val
     have k0 : wr.cell? ⟨g', o' + i * 5, none⟩ = some (.int .i64 tk) := hcl 0 _ rfl
     have k1 := hcl 1 _ rfl
     have k2 := hcl 2 _ rfl
     have k3 := hcl 3 _ rfl
     have k4 := hcl 4 _ rfl
     have hgw : g' < wr.heap.size := World.block_lt_of_cell? _ _ k0
     have hcall := hih N wr _ hRv (by have := hs1.out; omega)
     replace hcall := Lib.hid hcall
     have hb := Lib.hid hi
     clear hTA hTi hih hRv hcl
     cases hU : patV U with
     | false =>
      rw [hU] at hcall
      go_wp2_with fail
      refine hcall.out.mono ?_
      rintro e w4 ⟨rfl, g4⟩
      go_wp2_with fail
      go_ret
      refine ⟨?_, (hgA.out.trans hG).trans g4⟩
      rw [hsp.out (i + 1), hst'.out, hU, Bool.and_false]; rfl
     | true =>
      rw [hU] at hcall
      go_wp2_with fail
      refine hcall.out.mono ?_
      rintro e w4 ⟨rfl, g4⟩
      go_wp2_with fail
      exact ⟨⟨i + 1, hlt, by go_num, by show _ = _; rw [hst'.out, hno.out, hU]; rfl, hG.trans g4⟩, by simp [intOf]; omega⟩
    · have hd : decide ((i : Int) < (l.length : Int)) = false := by simp; omega
      have hie : i = l.length := by omega
      have e : Hid (l.all patV = true) := by have := hno.out; show _ = _; rw [hie] at this; rwa [List.take_length] at this
      clear hno hie
      go_wp2_with fail
      go_ret
      exact ⟨by rw [e.out]; rfl, hgA.out.trans hG⟩
 rw [if_neg c5]
 have q5 : (k == 5) = false := by simp; omega
 have q6 : (k == 6) = false := by simp; omega
 have q7 : (k == 7) = false := by simp; omega
 by_cases q1 : k < 1
 ·
  have d1 : decide (1 ≤ k) = false := by simp; omega
  clear hrow hR ih h7 c1 c7 c5 q1
  go_enter Tryz.func31, Tryz.ntmps31
  go_wp2_with fail
  go_ret
  exact ⟨rfl, gA⟩
 ·
  have d1 : decide (1 ≤ k) = true := by simp; omega
  have d2 : decide (k ≤ 4) = false := by simp; omega
  clear hrow hR ih h7 c1 c7 c5 q1
  go_enter Tryz.func31, Tryz.ntmps31
  go_wp2_with fail
  go_ret
  exact ⟨rfl, gA⟩
theorem rpat_c (T : Tr) : Szs [T] → (∀ U ∈ preL [T], ne1 U) → RPatOk T :=
 Tr.rec (motive_1 := fun T => Szs [T] → (∀ U ∈ preL [T], ne1 U) → RPatOk T) (motive_2 := fun l => Szs l → (∀ U ∈ preL l, ne1 U) → ∀ T ∈ l, RPatOk T)
  (fun k s m b l ih hs hQ => by
    have h1 : l.length ≤ 4611686018427387904 := (hs (.mk k s m b l) (by rw [preL_cons]; simp)).2
    have h2 := hQ (.mk k s m b l) (by rw [preL_cons]; simp)
    refine rpat_node k s m b l h1 (fun e => h2 (.inl e)) (ih (fun U hU => hs U ?_) (fun U hU => hQ U ?_))
    · rw [preL_cons]; simp [hU]
    · rw [preL_cons]; simp [hU])
  (fun _ _ T h => by cases h)
  (fun T l h1 h2 hs hQ U hU => by
    have e : preL (T :: l) = preL [T] ++ preL l := preL_app [T] l
    rcases List.mem_cons.1 hU with rfl | hU
    · exact h1 (fun V hV => hs V (by rw [e]; simp [hV])) (fun V hV => hQ V (by rw [e]; simp [hV]))
    · exact h2 (fun V hV => hs V (by rw [e]; simp [hV])) (fun V hV => hQ V (by rw [e]; simp [hV])) U hU) T
end Go.Proofs.YtjedbfbolifjjaaGreatDoor

namespace Go.Proofs.YtjedbfbolifjjaaGreatDoor
open Go.RowKit Go.Maps
variable {W W' : World}
theorem kIn_self (m : Int) : kIn m m = isK m := by
 funext T; obtain ⟨k, s, n, b, l⟩ := T
 show (decide (m ≤ k) && decide (k ≤ m)) = (k == m)
 rw [Bool.eq_iff_iff]; simp; omega
theorem kIn_ex : kIn 1 13 = exV := by
 funext T; obtain ⟨k, s, n, b, l⟩ := T; rfl
theorem sm_all (a b : Int) (l : List Tr) : smV a b 0 l.length l = l.all (kIn a b) := by unfold smV; rw [List.take_length, List.drop_zero]
theorem sm_init (a b : Int) (ys : List Tr) (A : Tr) : smV a b 0 ys.length (ys ++ [A]) = ys.all (kIn a b) := by
 unfold smV; rw [List.take_append_of_le_length (Nat.le_refl _), List.take_length, List.drop_zero]
theorem sm_last (a b : Int) (ys : List Tr) (A : Tr) : smV a b ys.length (ys.length + 1) (ys ++ [A]) = kIn a b A := by
 unfold smV
 rw [show (ys ++ [A]).take (ys.length + 1) = ys ++ [A] from List.take_of_length_le (by simp), List.drop_left]
 simp
theorem nil_or_end (l : List Tr) : l = [] ∨ ∃ ys A, l = ys ++ [A] := by
 rcases List.eq_nil_or_concat l with h | ⟨ys, A, h⟩
 · exact .inl h
 · exact .inr ⟨ys, A, by rw [h, List.concat_eq_append]⟩
theorem nz (n : Int) : (!(n != 0)) = (n == 0) := by simp [bne]
theorem bz (b : List Int) : (!decide (0 < (b.length : Int))) = (b.length == 0) := by cases b <;> simp <;> omega
theorem sz (s : ByteArray) : (!(s.toList != [])) = (s.toList == []) := by simp [bne]
theorem lz (l : List Tr) : ((l.length : Int) == 0) = (l.length == 0) := by cases l <;> simp <;> omega
theorem fq1 (s : ByteArray) (n : Int) (b : List Int) (l : List Tr) : (!decide (0 < (b.length : Int)) && !(s.toList != []) && ((l.length : Int) == 0) && decide (0 ≤ n) && decide (n < 4611686018427387904)) = !misV (.mk 1 s n b l) := by
 try rw [nz]
 try rw [bz]
 try rw [sz]
 try rw [lz]
 rw [Bool.eq_iff_iff]
 simp [misV, bareV, partsV, valV, zB, zL]
 try (constructor <;> intro h <;> (try simp_all) <;> (try omega))
 try (intros; first | exact or_comm | simp only [and_assoc, and_comm, and_left_comm])
theorem fq2 (s : ByteArray) (n : Int) (b : List Int) (l : List Tr) : (!(n != 0) && !decide (0 < (b.length : Int)) && ((l.length : Int) == 0) && (isName s && !wrd s)) = !misV (.mk 2 s n b l) := by
 try rw [nz]
 try rw [bz]
 try rw [sz]
 try rw [lz]
 rw [Bool.eq_iff_iff]
 simp [misV, bareV, partsV, valV, zB, zL]
 try (constructor <;> intro h <;> (try simp_all) <;> (try omega))
 try (intros; first | exact or_comm | simp only [and_assoc, and_comm, and_left_comm])
theorem fq3 (s : ByteArray) (n : Int) (b : List Int) (l : List Tr) : (!(n != 0) && !decide (0 < (b.length : Int)) && ((l.length : Int) == 0) && (isVarN s || (s.toList == [95]))) = !misV (.mk 3 s n b l) := by
 try rw [nz]
 try rw [bz]
 try rw [sz]
 try rw [lz]
 rw [Bool.eq_iff_iff]
 simp [misV, bareV, partsV, valV, zB, zL]
 try (constructor <;> intro h <;> (try simp_all) <;> (try omega))
 try (intros; first | exact or_comm | simp only [and_assoc, and_comm, and_left_comm])
theorem fq4 (s : ByteArray) (n : Int) (b : List Int) (l : List Tr) : (!(n != 0) && !(s.toList != []) && ((l.length : Int) == 0) && decide ((b.length : Int) ≤ 4096)) = !misV (.mk 4 s n b l) := by
 try rw [nz]
 try rw [bz]
 try rw [sz]
 try rw [lz]
 rw [Bool.eq_iff_iff]
 simp [misV, bareV, partsV, valV, zB, zL]
 try (constructor <;> intro h <;> (try simp_all) <;> (try omega))
 try (intros; first | exact or_comm | simp only [and_assoc, and_comm, and_left_comm])
theorem fq5 (s : ByteArray) (n : Int) (b : List Int) (l : List Tr) : (!(n != 0) && !decide (0 < (b.length : Int)) && !(s.toList != []) && smV 1 13 (0) (l.length) l) = !misV (.mk 5 s n b l) := by
 try rw [nz]
 try rw [bz]
 try rw [sz]
 try rw [lz]
 have e1 := sm_all 1 13 l
 rw [kIn_ex] at e1
 rw [e1]
 rw [Bool.eq_iff_iff]
 simp [misV, bareV, partsV, valV, zB, zL]
 try (constructor <;> intro h <;> (try simp_all) <;> (try omega))
 try (intros; first | exact or_comm | simp only [and_assoc, and_comm, and_left_comm])
theorem fq6 (s : ByteArray) (n : Int) (b : List Int) (l : List Tr) : (!(n != 0) && !decide (0 < (b.length : Int)) && !(s.toList != []) && smV 1 13 (0) (l.length) l) = !misV (.mk 6 s n b l) := by
 try rw [nz]
 try rw [bz]
 try rw [sz]
 try rw [lz]
 have e1 := sm_all 1 13 l
 rw [kIn_ex] at e1
 rw [e1]
 rw [Bool.eq_iff_iff]
 simp [misV, bareV, partsV, valV, zB, zL]
 try (constructor <;> intro h <;> (try simp_all) <;> (try omega))
 try (intros; first | exact or_comm | simp only [and_assoc, and_comm, and_left_comm])
theorem fq7 (s : ByteArray) (n : Int) (b : List Int) (l : List Tr) : (!(n != 0) && !decide (0 < (b.length : Int)) && !(s.toList != []) && ((l.length : Int) == 1) && smV 1 13 (0) (1) l) = !misV (.mk 7 s n b l) := by
 try rw [nz]
 try rw [bz]
 try rw [sz]
 try rw [lz]
 match l with
 | [] => simp [misV, partsV]
 | [A] =>
  have e1 : smV 1 13 0 1 [A] = exV A := by have := sm_all 1 13 [A]; rw [kIn_ex] at this; simpa using this
  rw [e1]
  rw [Bool.eq_iff_iff]
  simp [misV, bareV, partsV, valV, zB, zL]
  try (constructor <;> intro h <;> (try simp_all) <;> (try omega))
  try (intros; first | exact or_comm | simp only [and_assoc, and_comm, and_left_comm])
 | A :: B :: r =>
  rw [Bool.eq_iff_iff]
  simp [misV, bareV, partsV, valV, zB, zL]
  try (constructor <;> intro h <;> (try simp_all) <;> (try omega))
  try (intros; first | exact or_comm | simp only [and_assoc, and_comm, and_left_comm])
theorem fq8 (s : ByteArray) (n : Int) (b : List Int) (l : List Tr) : (!(n != 0) && !decide (0 < (b.length : Int)) && (binS s && ((l.length : Int) == 2) && smV 1 13 (0) (2) l)) = !misV (.mk 8 s n b l) := by
 try rw [nz]
 try rw [bz]
 try rw [sz]
 try rw [lz]
 match l with
 | [] => simp [misV, partsV]
 | [A] => simp [misV, partsV]
 | [A, B] =>
  have e1 : smV 1 13 0 2 [A, B] = (exV A && exV B) := by have := sm_all 1 13 [A, B]; rw [kIn_ex] at this; simpa using this
  rw [e1]
  rw [Bool.eq_iff_iff]
  simp [misV, bareV, partsV, valV, zB, zL]
  try (constructor <;> intro h <;> (try simp_all) <;> (try omega))
  try (intros; first | exact or_comm | simp only [and_assoc, and_comm, and_left_comm])
 | A :: B :: C :: r =>
  rw [Bool.eq_iff_iff]
  simp [misV, bareV, partsV, valV, zB, zL]
  try (constructor <;> intro h <;> (try simp_all) <;> (try omega))
  try (intros; first | exact or_comm | simp only [and_assoc, and_comm, and_left_comm])
theorem fq9 (s : ByteArray) (n : Int) (b : List Int) (l : List Tr) : (!(n != 0) && !decide (0 < (b.length : Int)) && !(s.toList != []) && ((l.length : Int) == 2) && smV 1 13 (0) (2) l) = !misV (.mk 9 s n b l) := by
 try rw [nz]
 try rw [bz]
 try rw [sz]
 try rw [lz]
 match l with
 | [] => simp [misV, partsV]
 | [A] => simp [misV, partsV]
 | [A, B] =>
  have e1 : smV 1 13 0 2 [A, B] = (exV A && exV B) := by have := sm_all 1 13 [A, B]; rw [kIn_ex] at this; simpa using this
  rw [e1]
  rw [Bool.eq_iff_iff]
  simp [misV, bareV, partsV, valV, zB, zL]
  try (constructor <;> intro h <;> (try simp_all) <;> (try omega))
  try (intros; first | exact or_comm | simp only [and_assoc, and_comm, and_left_comm])
 | A :: B :: C :: r =>
  rw [Bool.eq_iff_iff]
  simp [misV, bareV, partsV, valV, zB, zL]
  try (constructor <;> intro h <;> (try simp_all) <;> (try omega))
  try (intros; first | exact or_comm | simp only [and_assoc, and_comm, and_left_comm])
theorem fq10 (s : ByteArray) (n : Int) (b : List Int) (l : List Tr) : (!(n != 0) && !decide (0 < (b.length : Int)) && !(s.toList != []) && ((l.length : Int) == 2) && smV 1 13 (0) (2) l) = !misV (.mk 10 s n b l) := by
 try rw [nz]
 try rw [bz]
 try rw [sz]
 try rw [lz]
 match l with
 | [] => simp [misV, partsV]
 | [A] => simp [misV, partsV]
 | [A, B] =>
  have e1 : smV 1 13 0 2 [A, B] = (exV A && exV B) := by have := sm_all 1 13 [A, B]; rw [kIn_ex] at this; simpa using this
  rw [e1]
  rw [Bool.eq_iff_iff]
  simp [misV, bareV, partsV, valV, zB, zL]
  try (constructor <;> intro h <;> (try simp_all) <;> (try omega))
  try (intros; first | exact or_comm | simp only [and_assoc, and_comm, and_left_comm])
 | A :: B :: C :: r =>
  rw [Bool.eq_iff_iff]
  simp [misV, bareV, partsV, valV, zB, zL]
  try (constructor <;> intro h <;> (try simp_all) <;> (try omega))
  try (intros; first | exact or_comm | simp only [and_assoc, and_comm, and_left_comm])
theorem fq11 (s : ByteArray) (n : Int) (b : List Int) (l : List Tr) : (!(n != 0) && !decide (0 < (b.length : Int)) && (isName s && !wrd s) && smV 1 13 (0) (l.length) l) = !misV (.mk 11 s n b l) := by
 try rw [nz]
 try rw [bz]
 try rw [sz]
 try rw [lz]
 have e1 := sm_all 1 13 l
 rw [kIn_ex] at e1
 rw [e1]
 rw [Bool.eq_iff_iff]
 simp [misV, bareV, partsV, valV, zB, zL]
 try (constructor <;> intro h <;> (try simp_all) <;> (try omega))
 try (intros; first | exact or_comm | simp only [and_assoc, and_comm, and_left_comm])
theorem fq12 (s : ByteArray) (n : Int) (b : List Int) (l : List Tr) : (!(n != 0) && !decide (0 < (b.length : Int)) && !(s.toList != []) && decide (2 ≤ (l.length : Int)) && smV 1 13 (0) (1) l && smV 15 15 (1) (l.length) l) = !misV (.mk 12 s n b l) := by
 try rw [nz]
 try rw [bz]
 try rw [sz]
 try rw [lz]
 match l with
 | [] => simp [misV, partsV]
 | A :: r =>
  have e1 : smV 1 13 0 1 (A :: r) = exV A := by
   unfold smV; rw [kIn_ex]; simp
  have e2 : smV 15 15 1 (A :: r).length (A :: r) = r.all (isK 15) := by
   unfold smV; rw [kIn_self, List.take_length]; simp
  rw [e1, e2]
  rw [Bool.eq_iff_iff]
  simp [misV, bareV, partsV, valV, zB, zL]
  try (constructor <;> intro h <;> (try simp_all) <;> (try omega))
  try (intros; first | exact or_comm | simp only [and_assoc, and_comm, and_left_comm])
theorem fq13 (s : ByteArray) (n : Int) (b : List Int) (l : List Tr) : (!(n != 0) && !decide (0 < (b.length : Int)) && !(s.toList != []) && decide (1 ≤ (l.length : Int)) && smV 15 15 (0) (l.length - 1) l && smV 14 15 (l.length - 1) (l.length) l) = !misV (.mk 13 s n b l) := by
 try rw [nz]
 try rw [bz]
 try rw [sz]
 try rw [lz]
 rcases nil_or_end l with rfl | ⟨ys, A, rfl⟩
 · simp [misV, partsV]
 ·
  have el : (ys ++ [A]).length = ys.length + 1 := by simp
  have e1 : smV 15 15 0 ys.length (ys ++ [A]) = ys.all (isK 15) := by have := sm_init 15 15 ys A; rw [kIn_self] at this; exact this
  have e2 : smV 14 15 ys.length (ys.length + 1) (ys ++ [A]) = (isK 14 A || isK 15 A) := by
   rw [sm_last]
   obtain ⟨k, s, n, b, l⟩ := A
   show (decide (14 ≤ k) && decide (k ≤ 15)) = ((k == 14) || (k == 15))
   rw [Bool.eq_iff_iff]; simp; omega
  have e3 : (clsV (ys ++ [A])).all (isK 15) = (ys.all (isK 15) && (isK 14 A || isK 15 A)) := by
   have ea : aftV (ys ++ [A]) = isK 14 A := by simp [aftV]
   unfold clsV
   rw [ea]
   cases h14 : isK 14 A with
   | true => rw [if_pos rfl, List.dropLast_concat]; simp
   | false => rw [if_neg (by decide)]; simp
  rw [el, Nat.add_sub_cancel, e1, e2]
  have ep : partsV (.mk 13 s n b (ys ++ [A])) = (ys.all (isK 15) && (isK 14 A || isK 15 A)) := by
   rw [← e3]; simp [partsV]
  unfold misV
  rw [ep]
  generalize ys.all (isK 15) = X
  generalize isK 14 A = Y
  generalize isK 15 A = Z
  rw [Bool.eq_iff_iff]
  simp [bareV, valV, zB, zL]
  try (constructor <;> intro h <;> (try simp_all) <;> (try omega))
theorem fq14 (s : ByteArray) (n : Int) (b : List Int) (l : List Tr) : (!(n != 0) && !decide (0 < (b.length : Int)) && !(s.toList != []) && ((l.length : Int) == 2) && smV 1 13 (0) (1) l && smV 16 16 (1) (2) l) = !misV (.mk 14 s n b l) := by
 try rw [nz]
 try rw [bz]
 try rw [sz]
 try rw [lz]
 match l with
 | [] => simp [misV, partsV]
 | [A] => simp [misV, partsV]
 | [A, B] =>
  have e1 : smV 1 13 0 1 [A, B] = exV A := by have := sm_init 1 13 [A] B; rw [kIn_ex] at this; simpa using this
  have e2 : smV 16 16 1 2 [A, B] = isK 16 B := by have := sm_last 16 16 [A] B; rw [kIn_self] at this; simpa using this
  rw [e1, e2]
  rw [Bool.eq_iff_iff]
  simp [misV, bareV, partsV, valV, zB, zL]
  try (constructor <;> intro h <;> (try simp_all) <;> (try omega))
  try (intros; first | exact or_comm | simp only [and_assoc, and_comm, and_left_comm])
 | A :: B :: C :: r =>
  rw [Bool.eq_iff_iff]
  simp [misV, bareV, partsV, valV, zB, zL]
  try (constructor <;> intro h <;> (try simp_all) <;> (try omega))
  try (intros; first | exact or_comm | simp only [and_assoc, and_comm, and_left_comm])
theorem fq15 (s : ByteArray) (n : Int) (b : List Int) (l : List Tr) : (!(n != 0) && !decide (0 < (b.length : Int)) && !(s.toList != []) && ((l.length : Int) == 2) && smV 1 13 (0) (1) l && smV 16 16 (1) (2) l) = !misV (.mk 15 s n b l) := by
 try rw [nz]
 try rw [bz]
 try rw [sz]
 try rw [lz]
 match l with
 | [] => simp [misV, partsV]
 | [A] => simp [misV, partsV]
 | [A, B] =>
  have e1 : smV 1 13 0 1 [A, B] = exV A := by have := sm_init 1 13 [A] B; rw [kIn_ex] at this; simpa using this
  have e2 : smV 16 16 1 2 [A, B] = isK 16 B := by have := sm_last 16 16 [A] B; rw [kIn_self] at this; simpa using this
  rw [e1, e2]
  rw [Bool.eq_iff_iff]
  simp [misV, bareV, partsV, valV, zB, zL]
  try (constructor <;> intro h <;> (try simp_all) <;> (try omega))
  try (intros; first | exact or_comm | simp only [and_assoc, and_comm, and_left_comm])
 | A :: B :: C :: r =>
  rw [Bool.eq_iff_iff]
  simp [misV, bareV, partsV, valV, zB, zL]
  try (constructor <;> intro h <;> (try simp_all) <;> (try omega))
  try (intros; first | exact or_comm | simp only [and_assoc, and_comm, and_left_comm])
theorem fq16 (s : ByteArray) (n : Int) (b : List Int) (l : List Tr) : (!(n != 0) && !decide (0 < (b.length : Int)) && !(s.toList != []) && decide (1 ≤ (l.length : Int)) && smV 1 13 (0) (l.length) l) = !misV (.mk 16 s n b l) := by
 try rw [nz]
 try rw [bz]
 try rw [sz]
 try rw [lz]
 have e1 := sm_all 1 13 l
 rw [kIn_ex] at e1
 rw [e1]
 rw [Bool.eq_iff_iff]
 simp [misV, bareV, partsV, valV, zB, zL]
 try (constructor <;> intro h <;> (try simp_all) <;> (try omega))
 try (intros; first | exact or_comm | simp only [and_assoc, and_comm, and_left_comm])
theorem fq17 (s : ByteArray) (n : Int) (b : List Int) (l : List Tr) : (!(n != 0) && !decide (0 < (b.length : Int)) && decide (1 ≤ (l.length : Int)) && (isName s && !wrd s) && smV 3 3 (0) (l.length - 1) l && smV 16 16 (l.length - 1) (l.length) l) = !misV (.mk 17 s n b l) := by
 try rw [nz]
 try rw [bz]
 try rw [sz]
 try rw [lz]
 rcases nil_or_end l with rfl | ⟨ys, A, rfl⟩
 · simp [misV, partsV]
 ·
  have el : (ys ++ [A]).length = ys.length + 1 := by simp
  have e1 : smV 3 3 0 ys.length (ys ++ [A]) = ys.all (isK 3) := by have := sm_init 3 3 ys A; rw [kIn_self] at this; exact this
  have e2 : smV 16 16 ys.length (ys.length + 1) (ys ++ [A]) = isK 16 A := by
   rw [sm_last, kIn_self]
  rw [el, Nat.add_sub_cancel, e1, e2]
  have ep : partsV (.mk 17 s n b (ys ++ [A])) = (ys.all (isK 3) && isK 16 A) := by
   simp [partsV]
  unfold misV
  rw [ep]
  generalize ys.all (isK 3) = X
  generalize isK 16 A = Y
  rw [Bool.eq_iff_iff]
  simp [bareV, valV, zB, zL]
  try (constructor <;> intro h <;> (try simp_all) <;> (try omega))
theorem fq18 (s : ByteArray) (n : Int) (b : List Int) (l : List Tr) : (!(n != 0) && !decide (0 < (b.length : Int)) && !(s.toList != []) && smV 17 17 (0) (l.length) l) = !misV (.mk 18 s n b l) := by
 try rw [nz]
 try rw [bz]
 try rw [sz]
 try rw [lz]
 have e1 := sm_all 17 17 l
 rw [kIn_self] at e1
 rw [e1]
 rw [Bool.eq_iff_iff]
 simp [misV, bareV, partsV, valV, zB, zL]
 try (constructor <;> intro h <;> (try simp_all) <;> (try omega))
 try (intros; first | exact or_comm | simp only [and_assoc, and_comm, and_left_comm])
end Go.Proofs.YtjedbfbolifjjaaGreatDoor
