/-
  DgramFull: 1024 in flight, 64 in a box.
-/
import Derived.Test.YtjffhnpoipolfaaL
set_option linter.unusedVariables false
set_option linter.unusedSimpArgs false
namespace Go.Proofs.Ytjffhnpoipolfaa
open Go.RowKit Go.Maps Go.WideMaps
variable {S S' : Nat → Prop} {W W1 W' : World}

/-- After i datagrams were sent. -/
structure Fa (s : Ns) (i : Nat) : Prop where
  len : (s.q none).length = min i 1024
  lost : s.lost = i - 1024
  to : ∀ d ∈ s.q none, d.t = 2 ∨ d.t = 3
  box : ∀ k, s.q (some k) = []
  z : s.z ≤ 4 * i
  nodes : s.nodes = 3
theorem Fa.step {s s' : Ns} {i : Nat} (h : Fa s i) {t : Int} (ht : t = 2 ∨ t = 3) {l : List Nat} {n : Nat} (hp : Put s s' 1 t n l false) (hz : s'.z ≤ s.z + 4) (hn : s'.nodes = s.nodes) : Fa s' (i + 1) := by
  have h1 := h.len
  have h2 := h.lost
  have h3 := h.z
  rcases hp with ⟨hl, hlo, bk, hq⟩ | ⟨hl, hlo, hq⟩
  · refine ⟨by rw [hq, upd_same, List.length_append]; simp; omega, by omega, fun d hd => ?_, fun k => by rw [hq, upd_other _ _ (by simp)]; exact h.box k, by omega, hn.trans h.nodes⟩
    rw [hq, upd_same] at hd
    rcases List.mem_append.1 hd with hd | hd
    · exact h.to d hd
    · rw [List.mem_singleton] at hd; subst hd; exact ht
  · exact ⟨by rw [hq]; omega, by omega, by rw [hq]; exact h.to, by rw [hq]; exact h.box, by omega, hn.trans h.nodes⟩
/-- After j of them came. -/
structure Fb (s : Ns) (m j : Nat) : Prop where
  len : (s.q none).length = 1024 - j
  sum : (s.q (some 2)).length + (s.q (some 3)).length + s.lost = m + 1 + j
  to : ∀ d ∈ s.q none, d.t = 2 ∨ d.t = 3
  z : s.z ≤ 5000 + 4 * j
theorem Fb.step {s s' : Ns} {m j n : Nat} (h : Fb s m j) {d : Dg} (hd : (s.q none)[n]? = some d) (hc : Came s s' n d) (hz : s'.z ≤ s.z + 4) : Fb s' m (j + 1) := by
  have h1 := h.len
  have h2 := h.sum
  have h3 := h.z
  have hi : n < (s.q none).length := (List.getElem?_eq_some_iff.1 hd).1
  have hdt := h.to d (List.mem_of_getElem? hd)
  have hle : ((s.q none).eraseIdx n).length = (s.q none).length - 1 := List.length_eraseIdx_of_lt hi
  have hme : ∀ x ∈ (s.q none).eraseIdx n, x.t = 2 ∨ x.t = 3 := fun x hx => h.to x ((List.eraseIdx_sublist _ _).subset hx)
  rcases hc with ⟨hl, hlo, hq⟩ | ⟨hl, hlo, hq⟩
  · have e0 : s'.q none = (s.q none).eraseIdx n := by rw [hq, upd_other _ _ (by simp), upd_same]
    refine ⟨by rw [e0, hle]; omega, ?_, by rw [e0]; exact hme, by omega⟩
    rcases hdt with e | e
    · have e2 : s'.q (some 2) = s.q (some 2) ++ [d] := by rw [hq, e, upd_same]
      have e3 : s'.q (some 3) = s.q (some 3) := by rw [hq, e, upd_other _ _ (by simp), upd_other _ _ (by simp)]
      rw [e2, e3, List.length_append, hlo]; simp; omega
    · have e2 : s'.q (some 3) = s.q (some 3) ++ [d] := by rw [hq, e, upd_same]
      have e3 : s'.q (some 2) = s.q (some 2) := by rw [hq, e, upd_other _ _ (by simp), upd_other _ _ (by simp)]
      rw [e2, e3, List.length_append, hlo]; simp; omega
  · have e0 : s'.q none = (s.q none).eraseIdx n := by rw [hq, upd_same]
    refine ⟨by rw [e0, hle]; omega, ?_, by rw [e0]; exact hme, by omega⟩
    rw [hq, upd_other _ _ (by simp), upd_other _ _ (by simp), hlo]; omega
set_option maxRecDepth 20000 in
set_option maxHeartbeats 800000 in
theorem full_no (W : World) (more at' : Int) (h : more < 0 ∨ 100 < more) : Calls Try.prog 6 #[.int .i64 more, .int .i64 at'] W fun e w' => e = .returned (.bool true) ∧ G0 W w' := by
  by_cases h1 : more < 0
  · go_enter Try.func6, Try.ntmps6
    go_wp2_with fail
    refine (alive_c W).mono ?_
    rintro e w1 ⟨rfl, hg1⟩
    go_wp2
    go_ret
    exact ⟨rfl, hg1⟩
  · have h2 : 100 < more := by omega
    go_enter Try.func6, Try.ntmps6
    go_wp2_with fail
    refine (alive_c W).mono ?_
    rintro e w1 ⟨rfl, hg1⟩
    go_wp2
    go_ret
    exact ⟨rfl, hg1⟩
set_option maxRecDepth 20000 in
set_option maxHeartbeats 1600000 in
theorem full_yes (W : World) (m : Nat) (at' : Int) (hm : (m : Int) ≤ 100) (ha1 : -9223372036854775808 ≤ at') (ha2 : at' ≤ 9223372036854775807) : Calls Try.prog 6 #[.int .i64 (m : Int), .int .i64 at'] W fun e w' => e = .returned (.bool true) ∧ G0 W w' := by
  go_enter Try.func6, Try.ntmps6
  go_wp2_with fail
  refine (alive_c W).mono ?_
  rintro e w1 ⟨rfl, hg1⟩
  have Hg1 := Lib.hid hg1
  clear hg1
  go_wp2_with fail
  refine (new_c w1 3 (by decide)).mono ?_
  rintro e w2 ⟨s2, rfl, hn2, hg2, hs2, hf2⟩
  have hsz1 := Hg1.out.size
  have H2 := Lib.hid (show Hd W w2 s2 from ⟨Hg1.out.trans hg2, hn2, fun k hk => Nat.le_trans hsz1 (hf2 k hk)⟩)
  have F2 : Hid (Fa s2 0) := Lib.hid (by rw [hs2]; exact ⟨rfl, rfl, (fun d hd => by cases hd), fun k => rfl, Nat.le_refl _, rfl⟩)
  clear hn2 hg2 hs2 hf2 hsz1
  obtain ⟨p, hp⟩ : ∃ p, s2.p = p := ⟨_, rfl⟩
  have Hp := Lib.hid hp
  rw [hp]
  clear hp
  go_wp2_with fail
  go_loopw [7] (fun j wr => ∃ i : Nat, ∃ s, i ≤ 1024 + m ∧ j = .int .i64 (i : Int) ∧ Hd W wr s ∧ Fa s i ∧ s.p = p) (fun j _ => 1024 + m - (intOf j).toNat)
  case atStart => exact ⟨0, s2, Nat.zero_le _, rfl, H2.out, F2.out, Hp.out⟩
  case round =>
    obtain ⟨i, s, hi, rfl, hH, hF, hpp⟩ := hrel
    by_cases hlt : i < 1024 + m
    · have hiI : (i : Int) < 1024 + (m : Int) := by omega
      have hti : (i : Int).tmod 2 = ((i % 2 : Nat) : Int) := by rw [Int.tmod_eq_emod_of_nonneg (by omega)]; omega
      obtain ⟨r, hr⟩ : ∃ r, i % 2 = r := ⟨_, rfl⟩
      have hr2 : (r : Int) ≤ 1 := by omega
      rw [hr] at hti
      have hby : IntKind.u8.wrap (i : Int) = ((i % 256 : Nat) : Int) := by rw [IntKind.wrap_u8]; omega
      obtain ⟨b, hb⟩ : ∃ b, i % 256 = b := ⟨_, rfl⟩
      have hb2 : b < 256 := by omega
      rw [hb] at hby
      have HH := Lib.hid hH
      have HF := Lib.hid hF
      have Hpp := Lib.hid hpp
      have Hi := Lib.hid hi
      clear hH hF hpp hi
      go_wp2_with fail
      have hsl := lit1 wr b (0, 0) hb2
      have H3 := HH.out.g0 (Gr.alloc wr (.cells #[.int .u8 (b : Int)] 5) (fun _ => False))
      have hz := HF.out.z
      have tw := send_c _ s H3.nt (by have := Hi.out; omega) 1 (2 + (r : Int)) _ [b] hsl (fun b' off len cap e hb' => by cases e; have := HH.out.nt.lt hb'; omega) (by rw [HF.out.nodes]; simp [may, nod]; omega) (by simp)
      rw [Hpp.out] at tw
      refine tw.mono ?_
      clear tw
      rintro e w4 ⟨rfl, s4, hx4, ht4, hpu4⟩
      have H4 := H3.step hx4
      have F4 := HF.out.step (show (2 + (r : Int)) = 2 ∨ (2 + (r : Int)) = 3 by omega) hpu4 hx4.z hx4.nodes
      have hp4 := hx4.p.trans Hpp.out
      clear hx4 hpu4 ht4 hsl H3 hz
      go_wp2_with fail
      exact ⟨⟨i + 1, s4, by omega, by go_num, H4, F4, hp4⟩, by simp [intOf]; omega⟩
    · obtain rfl : i = 1024 + m := by omega
      have hlen : (s.q none).length = 1024 := by have := hF.len; omega
      have hlost : s.lost = m := by have := hF.lost; omega
      have hz : s.z ≤ 4496 := by have := hF.z; omega
      have HH := Lib.hid hH
      have HF := Lib.hid hF
      have Hpp := Lib.hid hpp
      have Hlen := Lib.hid hlen
      have Hlost := Lib.hid hlost
      have Hz := Lib.hid hz
      clear hH hF hpp hi hlen hlost hz hlt
      go_wp2_with fail
      have tw := flight_c _ s HH.out.nt
      rw [Hpp.out, Hlen.out] at tw
      refine tw.mono ?_
      clear tw
      rintro e w5 ⟨g5, l5, rfl, _, _, _, hg5⟩
      have H5 := Lib.hid (HH.out.g0 hg5)
      clear hg5
      go_wp2_with fail
      have tw := lost_c _ s H5.out.nt
      rw [Hpp.out, Hlost.out] at tw
      refine tw.mono ?_
      clear tw
      rintro e w6 ⟨rfl, rfl⟩
      go_wp2_with fail
      obtain ⟨d, hd⟩ : ∃ d, (s.q none)[0]? = some d := ⟨_, List.getElem?_eq_getElem (by rw [Hlen.out]; omega)⟩
      have tw := twin_c _ s H5.out.nt (by have := Hz.out; omega) 0 d hd
      rw [Hpp.out] at tw
      refine tw.mono ?_
      clear tw
      rintro e w7 ⟨rfl, s7, hx7, ht7, hpu7⟩
      have H7 := Lib.hid (H5.out.step hx7)
      have hl7 : s7.lost = m + 1 ∧ s7.q = s.q := by
        rcases hpu7 with ⟨h1, _⟩ | ⟨_, h2, h3⟩
        · rw [Hlen.out] at h1; omega
        · rw [Hlost.out] at h2; exact ⟨h2, h3⟩
      have Hl7 := Lib.hid hl7
      have Hp7 := Lib.hid (hx7.p.trans Hpp.out)
      have F7 : Hid (Fb s7 m 0) := Lib.hid ⟨by rw [hl7.2, Hlen.out], by rw [hl7.2, HF.out.box, HF.out.box, hl7.1]; simp, by rw [hl7.2]; exact HF.out.to, by have := hx7.z; have := Hz.out; omega⟩
      clear hx7 hpu7 ht7 hl7 hd
      go_wp2_with fail
      have tw := lost_c _ s7 H7.out.nt
      rw [Hp7.out, Hl7.out.1] at tw
      refine tw.mono ?_
      clear tw
      rintro e w8 ⟨rfl, rfl⟩
      by_cases hneg : at' < 0
      · obtain ⟨A, hA⟩ := Int.eq_ofNat_of_zero_le (show 0 ≤ -(at' + 1) by omega)
        go_wp2_with fail
        go_loopw [8] (fun j wr => ∃ i : Nat, ∃ s, i ≤ 200 ∧ j = .int .i64 (i : Int) ∧ Hd W wr s ∧ Fb s m i ∧ s.p = p) (fun j _ => 200 - (intOf j).toNat)
        case atStart => exact ⟨0, s7, Nat.zero_le _, rfl, H7.out, F7.out, Hp7.out⟩
        case round =>
          obtain ⟨i, s, hi, rfl, hH, hF, hpp⟩ := hrel
          by_cases hlt : i < 200
          · have hiI : (i : Int) < 200 := by omega
            obtain ⟨n, hn⟩ : ∃ n, (s.q none).length = n := ⟨_, rfl⟩
            have hnI : (n : Int) = 1024 - (i : Int) := by have := hF.len; omega
            have hn0 : ((n : Int) == 0) = false := beq_eq_false_iff_ne.2 (by omega)
            have hn1 : ((n : Int) == -1) = false := beq_eq_false_iff_ne.2 (by omega)
            have hn2 : ¬ (n : Int) = 0 := by omega
            have htm : (A : Int) % (n : Int) = ((A % n : Nat) : Int) := by push_cast; rfl
            obtain ⟨r, hr⟩ : ∃ r, A % n = r := ⟨_, rfl⟩
            have hrn : r < n := by rw [← hr]; exact Nat.mod_lt _ (by omega)
            rw [hr] at htm
            have hrI : (r : Int) < 1024 := by omega
            have hnl : (n : Int) ≤ 1024 := by omega
            have hn3 : (1 : Int) ≤ (n : Int) := by omega
            clear hnI
            have HH := Lib.hid hH
            have HF := Lib.hid hF
            have Hpp := Lib.hid hpp
            have Hi := Lib.hid hi
            have Hn := Lib.hid hn
            have Hrn := Lib.hid hrn
            clear hH hF hpp hi hn hr hrn
            go_wp2_with fail
            have tw := flight_c _ s HH.out.nt
            rw [Hpp.out, Hn.out] at tw
            refine tw.mono ?_
            clear tw
            rintro e w5 ⟨g5, l5, rfl, _, _, _, hg5⟩
            have H5 := Lib.hid (HH.out.g0 hg5)
            clear hg5
            go_wp2_with fail
            obtain ⟨d, hd⟩ : ∃ d, (s.q none)[r]? = some d := ⟨_, List.getElem?_eq_getElem (by rw [Hn.out]; exact Hrn.out)⟩
            have tw := deliver_c _ s H5.out.nt (by have := HF.out.z; have := Hi.out; omega) r d hd
            rw [Hpp.out] at tw
            refine tw.mono ?_
            clear tw
            rintro e w7 ⟨rfl, s9, hx9, ht9, hca9⟩
            have H9 := H5.out.step hx9
            have F9 := HF.out.step hd hca9 hx9.z
            have hp9 := hx9.p.trans Hpp.out
            clear hx9 hca9 ht9 hd
            go_wp2_with fail
            exact ⟨⟨i + 1, s9, by omega, by go_num, H9, F9, hp9⟩, by simp [intOf]; omega⟩
          · obtain rfl : i = 200 := by omega
            obtain ⟨x2, hx2⟩ : ∃ x, (s.q (some 2)).length = x := ⟨_, rfl⟩
            obtain ⟨x3, hx3⟩ : ∃ x, (s.q (some 3)).length = x := ⟨_, rfl⟩
            obtain ⟨lo, hlo⟩ : ∃ x, s.lost = x := ⟨_, rfl⟩
            have b2 : (x2 : Int) ≤ 64 := by have := hH.nt.bl 2; omega
            have b3 : (x3 : Int) ≤ 64 := by have := hH.nt.bl 3; omega
            have hsum : (x2 : Int) + (x3 : Int) + (lo : Int) = (m : Int) + 201 := by have := hF.sum; omega
            have hln : (s.q none).length = 824 := by have := hF.len; omega
            have HH := Lib.hid hH
            have Hpp := Lib.hid hpp
            have Hx2 := Lib.hid hx2
            have Hx3 := Lib.hid hx3
            have Hlo := Lib.hid hlo
            have Hln := Lib.hid hln
            have t2 := fun w (g : G0 wr w) => box_c w s (HH.out.g0 g).nt 2 (by decide)
            have t3 := fun w (g : G0 wr w) => box_c w s (HH.out.g0 g).nt 3 (by decide)
            have tl := fun w (g : G0 wr w) => lost_c w s (HH.out.g0 g).nt
            have tf := fun w (g : G0 wr w) => flight_c w s (HH.out.g0 g).nt
            rw [hpp, hx2] at t2
            rw [hpp, hx3] at t3
            rw [hpp, hlo] at tl
            rw [hpp, hln] at tf
            have T2 := Lib.hid t2
            have T3 := Lib.hid t3
            have Tl := Lib.hid tl
            have Tf := Lib.hid tf
            have hsum2 : (x2 : Int) + (x3 : Int) + (lo : Int) - (m : Int) - 1 = 200 := by omega
            have hloI : (lo : Int) ≤ 301 := by omega
            clear hH hF hpp hi hx2 hx3 hlo hln hlt t2 t3 tl tf
            go_wp2_with fail
            refine (T2.out _ (Gr.refl _ _)).mono ?_
            rintro e w9 ⟨rfl, rfl⟩
            go_wp2_with fail
            refine (T3.out _ (Gr.refl _ _)).mono ?_
            rintro e w9 ⟨rfl, rfl⟩
            go_wp2_with fail
            refine (T2.out _ (Gr.refl _ _)).mono ?_
            rintro e w9 ⟨rfl, rfl⟩
            go_wp2_with fail
            refine (T3.out _ (Gr.refl _ _)).mono ?_
            rintro e w9 ⟨rfl, rfl⟩
            go_wp2_with fail
            refine (Tl.out _ (Gr.refl _ _)).mono ?_
            rintro e w9 ⟨rfl, rfl⟩
            go_wp2_with fail
            refine (Tf.out _ (Gr.refl _ _)).mono ?_
            rintro e w9 ⟨g9, l9, rfl, _, _, _, hg9⟩
            go_wp2
            go_ret
            exact ⟨rfl, HH.out.g.trans hg9⟩
      · obtain ⟨A, hA⟩ := Int.eq_ofNat_of_zero_le (show 0 ≤ at' by omega)
        go_wp2_with fail
        go_loopw [8] (fun j wr => ∃ i : Nat, ∃ s, i ≤ 200 ∧ j = .int .i64 (i : Int) ∧ Hd W wr s ∧ Fb s m i ∧ s.p = p) (fun j _ => 200 - (intOf j).toNat)
        case atStart => exact ⟨0, s7, Nat.zero_le _, rfl, H7.out, F7.out, Hp7.out⟩
        case round =>
          obtain ⟨i, s, hi, rfl, hH, hF, hpp⟩ := hrel
          by_cases hlt : i < 200
          · have hiI : (i : Int) < 200 := by omega
            obtain ⟨n, hn⟩ : ∃ n, (s.q none).length = n := ⟨_, rfl⟩
            have hnI : (n : Int) = 1024 - (i : Int) := by have := hF.len; omega
            have hn0 : ((n : Int) == 0) = false := beq_eq_false_iff_ne.2 (by omega)
            have hn1 : ((n : Int) == -1) = false := beq_eq_false_iff_ne.2 (by omega)
            have hn2 : ¬ (n : Int) = 0 := by omega
            have htm : (A : Int) % (n : Int) = ((A % n : Nat) : Int) := by push_cast; rfl
            obtain ⟨r, hr⟩ : ∃ r, A % n = r := ⟨_, rfl⟩
            have hrn : r < n := by rw [← hr]; exact Nat.mod_lt _ (by omega)
            rw [hr] at htm
            have hrI : (r : Int) < 1024 := by omega
            have hnl : (n : Int) ≤ 1024 := by omega
            have hn3 : (1 : Int) ≤ (n : Int) := by omega
            clear hnI
            have HH := Lib.hid hH
            have HF := Lib.hid hF
            have Hpp := Lib.hid hpp
            have Hi := Lib.hid hi
            have Hn := Lib.hid hn
            have Hrn := Lib.hid hrn
            clear hH hF hpp hi hn hr hrn
            go_wp2_with fail
            have tw := flight_c _ s HH.out.nt
            rw [Hpp.out, Hn.out] at tw
            refine tw.mono ?_
            clear tw
            rintro e w5 ⟨g5, l5, rfl, _, _, _, hg5⟩
            have H5 := Lib.hid (HH.out.g0 hg5)
            clear hg5
            go_wp2_with fail
            obtain ⟨d, hd⟩ : ∃ d, (s.q none)[r]? = some d := ⟨_, List.getElem?_eq_getElem (by rw [Hn.out]; exact Hrn.out)⟩
            have tw := deliver_c _ s H5.out.nt (by have := HF.out.z; have := Hi.out; omega) r d hd
            rw [Hpp.out] at tw
            refine tw.mono ?_
            clear tw
            rintro e w7 ⟨rfl, s9, hx9, ht9, hca9⟩
            have H9 := H5.out.step hx9
            have F9 := HF.out.step hd hca9 hx9.z
            have hp9 := hx9.p.trans Hpp.out
            clear hx9 hca9 ht9 hd
            go_wp2_with fail
            exact ⟨⟨i + 1, s9, by omega, by go_num, H9, F9, hp9⟩, by simp [intOf]; omega⟩
          · obtain rfl : i = 200 := by omega
            obtain ⟨x2, hx2⟩ : ∃ x, (s.q (some 2)).length = x := ⟨_, rfl⟩
            obtain ⟨x3, hx3⟩ : ∃ x, (s.q (some 3)).length = x := ⟨_, rfl⟩
            obtain ⟨lo, hlo⟩ : ∃ x, s.lost = x := ⟨_, rfl⟩
            have b2 : (x2 : Int) ≤ 64 := by have := hH.nt.bl 2; omega
            have b3 : (x3 : Int) ≤ 64 := by have := hH.nt.bl 3; omega
            have hsum : (x2 : Int) + (x3 : Int) + (lo : Int) = (m : Int) + 201 := by have := hF.sum; omega
            have hln : (s.q none).length = 824 := by have := hF.len; omega
            have HH := Lib.hid hH
            have Hpp := Lib.hid hpp
            have Hx2 := Lib.hid hx2
            have Hx3 := Lib.hid hx3
            have Hlo := Lib.hid hlo
            have Hln := Lib.hid hln
            have t2 := fun w (g : G0 wr w) => box_c w s (HH.out.g0 g).nt 2 (by decide)
            have t3 := fun w (g : G0 wr w) => box_c w s (HH.out.g0 g).nt 3 (by decide)
            have tl := fun w (g : G0 wr w) => lost_c w s (HH.out.g0 g).nt
            have tf := fun w (g : G0 wr w) => flight_c w s (HH.out.g0 g).nt
            rw [hpp, hx2] at t2
            rw [hpp, hx3] at t3
            rw [hpp, hlo] at tl
            rw [hpp, hln] at tf
            have T2 := Lib.hid t2
            have T3 := Lib.hid t3
            have Tl := Lib.hid tl
            have Tf := Lib.hid tf
            have hsum2 : (x2 : Int) + (x3 : Int) + (lo : Int) - (m : Int) - 1 = 200 := by omega
            have hloI : (lo : Int) ≤ 301 := by omega
            clear hH hF hpp hi hx2 hx3 hlo hln hlt t2 t3 tl tf
            go_wp2_with fail
            refine (T2.out _ (Gr.refl _ _)).mono ?_
            rintro e w9 ⟨rfl, rfl⟩
            go_wp2_with fail
            refine (T3.out _ (Gr.refl _ _)).mono ?_
            rintro e w9 ⟨rfl, rfl⟩
            go_wp2_with fail
            refine (T2.out _ (Gr.refl _ _)).mono ?_
            rintro e w9 ⟨rfl, rfl⟩
            go_wp2_with fail
            refine (T3.out _ (Gr.refl _ _)).mono ?_
            rintro e w9 ⟨rfl, rfl⟩
            go_wp2_with fail
            refine (Tl.out _ (Gr.refl _ _)).mono ?_
            rintro e w9 ⟨rfl, rfl⟩
            go_wp2_with fail
            refine (Tf.out _ (Gr.refl _ _)).mono ?_
            rintro e w9 ⟨g9, l9, rfl, _, _, _, hg9⟩
            go_wp2
            go_ret
            exact ⟨rfl, HH.out.g.trans hg9⟩
theorem full_walk (W : World) (more at' : Int) (ha1 : -9223372036854775808 ≤ at') (ha2 : at' ≤ 9223372036854775807) : Calls Try.prog 6 #[.int .i64 more, .int .i64 at'] W fun e w' => e = .returned (.bool true) ∧ G0 W w' := by
  by_cases h : more < 0 ∨ 100 < more
  · exact full_no W more at' h
  · obtain ⟨m, rfl⟩ := Int.eq_ofNat_of_zero_le (show 0 ≤ more by omega)
    exact full_yes W m at' (by omega) ha1 ha2
end Go.Proofs.Ytjffhnpoipolfaa
