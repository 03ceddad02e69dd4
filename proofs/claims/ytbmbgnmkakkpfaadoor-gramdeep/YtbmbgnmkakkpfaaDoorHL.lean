/-
  The walk of GramDeep.
-/
import Derived.Test.YtbmbgnmkakkpfaaDoorHI
import Derived.Test.YtbmbgnmkakkpfaaDoorHA
import Derived.Test.YtbmbgnmkakkpfaaDoorGO
import Derived.Laws.Concat
set_option linter.unusedVariables false
set_option linter.unusedSimpArgs false
namespace Go.Proofs.YtbmbgnmkakkpfaaDoor
open Go.RowKit Go.Maps
abbrev rwH : Array Value := #[.string ⟨#[40]⟩, .string ⟨#[123]⟩, .string ⟨#[91]⟩, .string ⟨#[45, 32]⟩, .string ⟨#[97, 40]⟩, .string ⟨#[120, 32, 61, 32]⟩, .string ⟨#[120, 32, 33, 32]⟩, .string ⟨#[99, 97, 115, 101, 32, 120, 32, 111, 102, 32, 121, 32, 45, 62, 32]⟩, .string ⟨#[114, 101, 99, 101, 105, 118, 101, 32, 121, 32, 45, 62, 32]⟩]
abbrev rwE : Array Value := #[.string ⟨#[41]⟩, .string ⟨#[125]⟩, .string ⟨#[93]⟩, .string ⟨#[]⟩, .string ⟨#[41]⟩, .string ⟨#[]⟩, .string ⟨#[]⟩, .string ⟨#[32, 101, 110, 100]⟩, .string ⟨#[32, 101, 110, 100]⟩]
abbrev rwL : Array Value := #[.int .i64 0, .int .i64 0, .int .i64 0, .int .i64 0, .int .i64 1, .int .i64 1, .int .i64 1, .int .i64 0, .int .i64 0]
abbrev rwM : Array Value := #[.int .i64 1, .int .i64 1, .int .i64 1, .int .i64 1, .int .i64 2, .int .i64 2, .int .i64 2, .int .i64 5, .int .i64 3]
theorem rw_at : ∀ k, k < 9 → rwH[k]? = some (.string (sb (dH k))) ∧ rwE[k]? = some (.string (sb (dE k))) ∧ rwL[k]? = some (.int .i64 (dLead k : Int)) ∧ rwM[k]? = some (.int .i64 (dMany k : Int))
  | 0, _ => ⟨rfl, rfl, rfl, rfl⟩
  | 1, _ => ⟨rfl, rfl, rfl, rfl⟩
  | 2, _ => ⟨rfl, rfl, rfl, rfl⟩
  | 3, _ => ⟨rfl, rfl, rfl, rfl⟩
  | 4, _ => ⟨rfl, rfl, rfl, rfl⟩
  | 5, _ => ⟨rfl, rfl, rfl, rfl⟩
  | 6, _ => ⟨rfl, rfl, rfl, rfl⟩
  | 7, _ => ⟨rfl, rfl, rfl, rfl⟩
  | 8, _ => ⟨rfl, rfl, rfl, rfl⟩
  | k + 9, h => absurd h (by omega)
theorem four_rows (w : World) (k : Nat) (hk : k < 9) : ∀ w', w' = (((w.alloc (.cells rwH 9)).alloc (.cells rwE 9)).alloc (.cells rwL 3)).alloc (.cells rwM 3) → Gr (fun _ => False) w w' ∧ w'.heap.size = w.heap.size + 4 ∧ w'.cell? ⟨w.heap.size, k, none⟩ = some (.string (sb (dH k))) ∧ w'.cell? ⟨w.heap.size + 1, k, none⟩ = some (.string (sb (dE k))) ∧ w'.cell? ⟨w.heap.size + 1 + 1, k, none⟩ = some (.int .i64 (dLead k : Int)) ∧ w'.cell? ⟨w.heap.size + 1 + 1 + 1, k, none⟩ = some (.int .i64 (dMany k : Int)) := by
  rintro w' rfl
  obtain ⟨h1, h2, h3, h4⟩ := rw_at k hk
  have c1 := heap_alloc_new w (.cells rwH 9)
  have z1 : (w.alloc (.cells rwH 9)).heap.size = w.heap.size + 1 := by simp
  have g1 := Gr.alloc w (.cells rwH 9) (fun _ => False)
  generalize w.alloc (.cells rwH 9) = u1 at *
  have c2 := heap_alloc_new u1 (.cells rwE 9)
  have z2 : (u1.alloc (.cells rwE 9)).heap.size = u1.heap.size + 1 := by simp
  have g2 := Gr.alloc u1 (.cells rwE 9) (fun _ => False)
  generalize u1.alloc (.cells rwE 9) = u2 at *
  have c3 := heap_alloc_new u2 (.cells rwL 3)
  have z3 : (u2.alloc (.cells rwL 3)).heap.size = u2.heap.size + 1 := by simp
  have g3 := Gr.alloc u2 (.cells rwL 3) (fun _ => False)
  generalize u2.alloc (.cells rwL 3) = u3 at *
  have c4 := heap_alloc_new u3 (.cells rwM 3)
  have z4 : (u3.alloc (.cells rwM 3)).heap.size = u3.heap.size + 1 := by simp
  have g4 := Gr.alloc u3 (.cells rwM 3) (fun _ => False)
  generalize u3.alloc (.cells rwM 3) = u4 at *
  have d1 := (g2.trans (g3.trans g4)).keep c1 (fun e => e)
  have d2 := (g3.trans g4).keep c2 (fun e => e)
  have d3 := g4.keep c3 (fun e => e)
  rw [z1] at d2
  rw [z2, z1] at d3
  rw [z3, z2, z1] at c4
  refine ⟨g1.trans (g2.trans (g3.trans g4)), by omega, ?_, ?_, ?_, ?_⟩
  · simp only [World.cell?, d1]; exact h1
  · simp only [World.cell?, d2]; exact h2
  · simp only [World.cell?, d3]; exact h3
  · simp only [World.cell?, c4]; exact h4

set_option maxRecDepth 100000 in
set_option maxHeartbeats 1600000 in
theorem deep_in_p (W : World) (n k : Nat) (kd : Int) (hn : n ≤ 300) (hk : k < 9) (hkd : 0 ≤ kd) (hkm : kd.tmod 9 = (k : Int)) (hal : Calls Tryd.prog 7 #[] W fun e w' => e = .returned (.bool true) ∧ Gr (fun _ => False) W w')
    (htx : ∀ w, Gr (fun _ => False) W w → Calls Tryd.prog 15 #[.string (sb (dText k n))] w fun e w' => EndP w e w' (textV (sb (dText k n)))) :
    Calls Tryd.prog 5 #[.int .i64 (n : Int), .int .i64 kd] W fun e w' => e = .returned (.bool true) ∧ Gr (fun _ => False) W w' := by
  have hnI : (n : Int) ≤ 300 := by omega
  have hkI : (k : Int) < 9 := by omega
  replace hn := Lib.hid hn
  replace htx := Lib.hid htx
  replace hk := Lib.hid hk
  go_enter Tryd.func5, Tryd.ntmps5
  go_wp2_with fail
  refine hal.mono ?_
  rintro e w1 ⟨rfl, g1⟩
  clear hal
  have F := four_rows w1 k hk.out
  go_wp2_with fail
  obtain ⟨w5, hw5⟩ : ∃ w5, w5 = (((w1.alloc (.cells rwH 9)).alloc (.cells rwE 9)).alloc (.cells rwL 3)).alloc (.cells rwM 3) := ⟨_, rfl⟩
  obtain ⟨G5, z5, c1, c2, c3, c4⟩ := F w5 hw5
  clear F
  rw [show (((w1.alloc (.cells rwH 9)).alloc (.cells rwE 9)).alloc (.cells rwL 3)).alloc (.cells rwM 3) = w5 from hw5.symm]
  clear hw5
  obtain ⟨b, hb⟩ : ∃ b, w1.heap.size = b := ⟨_, rfl⟩
  rw [hb] at c1 c2 c3 c4 z5 ⊢
  have hbs : b + 3 < w5.heap.size := by omega
  clear z5
  have hG0 : Hid (∀ w, Gr (fun _ => False) w5 w → Gr (fun _ => False) W w) := fun w g => (g1.trans G5).trans g
  obtain ⟨s1, s2, s3, s4, s5, _⟩ := sz_facts hk.out
  have hsH : Hid (∀ i, i ≤ n → (sb (dA ++ repL i (dH k))).size ≤ 6000) := fun i hi => by
    show _ ≤ _
    rw [sb_sz, List.length_append, repL_len]
    have := mul_le (Nat.le_trans hi hn.out) s1
    have : dA.length = 7 := rfl
    omega
  have hsE : Hid (∀ i, i ≤ n → (sb (dA ++ (repL n (dH k) ++ ([122] ++ repL i (dE k))))).size ≤ 6000) := fun i hi => by
    show _ ≤ _
    rw [sb_sz, List.length_append, List.length_append, List.length_append, repL_len, repL_len]
    have := mul_le hn.out s1
    have := mul_le (Nat.le_trans hi hn.out) s2
    have : dA.length = 7 := rfl
    have : ([122] : List Int).length = 1 := rfl
    omega
  have hd1 : Hid ((sb (dH k)).size ≤ 15) := by show _ ≤ _; rw [sb_sz]; exact s1
  have hd2 : Hid ((sb (dE k)).size ≤ 4) := by show _ ≤ _; rw [sb_sz]; exact s2
  have hmany : (dMany k : Int) ≤ 5 := by omega
  have hlead : (dLead k : Int) ≤ 5 := by omega
  clear s1 s2 s3 s4 s5 g1 G5
  go_loopw [10, 11] (fun u10 u11 wr => ∃ i : Nat, i ≤ n ∧ u11 = .int .i64 (i : Int) ∧ u10 = .string (sb (dA ++ repL i (dH k))) ∧ Gr (fun _ => False) w5 wr) (fun _ u11 _ => n - (intOf u11).toNat)
  case atStart => exact ⟨0, Nat.zero_le _, rfl, by rw [repL_zero, List.append_nil]; rfl, Gr.refl _ _⟩
  case round =>
    obtain ⟨i, hi, rfl, rfl, hG⟩ := hrel
    have c1r := cell_gr c1 hG (fun e => e)
    have hszr := hG.size
    have hbw : b < wr.heap.size := by omega
    by_cases hlt : i < n
    · have h1 : decide ((i : Int) < (n : Int)) = true := by simp; omega
      have hcc : (sb (dA ++ repL i (dH k))).size + (sb (dH k)).size ≤ 9223372036854775807 := by have := hsH.out i hi; have := hd1.out; omega
      have hst : Hid (sb (dA ++ repL i (dH k)) ++ sb (dH k) = sb (dA ++ repL (i + 1) (dH k))) := by show _ = _; rw [sb_app, repL_snoc, List.append_assoc]
      have hiI : (i : Int) ≤ 300 := by omega
      clear c1 c2 c3 c4 hsH hsE hd1 hd2
      replace hG := Lib.hid hG
      generalize sb (dA ++ repL i (dH k)) = C at *
      generalize sb (dH k) = D at *
      go_wp2_with fail
      exact ⟨⟨i + 1, hlt, by go_num, by rw [hst.out], hG.out⟩, by simp [intOf]; omega⟩
    · obtain rfl : i = n := by omega
      have h1 : decide ((i : Int) < (i : Int)) = false := by simp
      have hcc : (sb (dA ++ repL i (dH k))).size + 1 ≤ 9223372036854775807 := by have := hsH.out i hi; omega
      have hst : Hid (sb (dA ++ repL i (dH k)) ++ ⟨#[122]⟩ = sb (dA ++ (repL i (dH k) ++ ([122] ++ repL 0 (dE k))))) := by
        show _ = _
        rw [show (⟨#[122]⟩ : ByteArray) = sb [122] from rfl, sb_app, repL_zero, List.append_nil, List.append_assoc]
      clear c1r hi hlt
      have hG' := Lib.hid hG
      clear hG
      generalize sb (dA ++ repL i (dH k)) = C at hcc hst ⊢
      go_wp2_with fail
      go_loopw [10, 12] (fun u10 u12 wq => ∃ j : Nat, j ≤ i ∧ u12 = .int .i64 (j : Int) ∧ u10 = .string (sb (dA ++ (repL i (dH k) ++ ([122] ++ repL j (dE k))))) ∧ Gr (fun _ => False) w5 wq) (fun _ u12 _ => i - (intOf u12).toNat)
      case atStart => exact ⟨0, Nat.zero_le _, rfl, by rw [hst.out], hG'.out⟩
      case round =>
        obtain ⟨j, hj, rfl, rfl, hGq⟩ := hrel
        have c2r := cell_gr c2 hGq (fun e => e)
        have hszq := hGq.size
        have hbq : b + 1 < wr.heap.size := by omega
        by_cases hlt : j < i
        · have h2 : decide ((j : Int) < (i : Int)) = true := by simp; omega
          have hcq : (sb (dA ++ (repL i (dH k) ++ ([122] ++ repL j (dE k))))).size + (sb (dE k)).size ≤ 9223372036854775807 := by have := hsE.out j hj; have := hd2.out; omega
          have hsq : Hid (sb (dA ++ (repL i (dH k) ++ ([122] ++ repL j (dE k)))) ++ sb (dE k) = sb (dA ++ (repL i (dH k) ++ ([122] ++ repL (j + 1) (dE k))))) := by
            show _ = _
            rw [sb_app, repL_snoc]; simp
          have hjI : (j : Int) ≤ 300 := by omega
          clear c1 c2 c3 c4 hsH hsE hd1 hd2 hst hcc
          replace hGq := Lib.hid hGq
          generalize sb (dA ++ (repL i (dH k) ++ ([122] ++ repL j (dE k)))) = C2 at *
          generalize sb (dE k) = D at *
          go_wp2_with fail
          exact ⟨⟨j + 1, hlt, by go_num, by rw [hsq.out], hGq.out⟩, by simp [intOf]; omega⟩
        · obtain rfl : j = i := by omega
          have h2 : decide ((j : Int) < (j : Int)) = false := by simp
          have hcq : (sb (dA ++ (repL j (dH k) ++ ([122] ++ repL j (dE k))))).size + 1 ≤ 9223372036854775807 := by have := hsE.out j hj; omega
          have hsq : sb (dA ++ (repL j (dH k) ++ ([122] ++ repL j (dE k)))) ++ ⟨#[46]⟩ = sb (dText k j) := by
            rw [show (⟨#[46]⟩ : ByteArray) = sb [46] from rfl, sb_app]
            unfold dText
            simp
          have c3r := cell_gr c3 hGq (fun e => e)
          have c4r := cell_gr c4 hGq (fun e => e)
          have hcall := htx.out _ (hG0.out _ hGq)
          replace hGq := Lib.hid hGq
          clear c1 c2 c3 c4 hsH hsE hd1 hd2 hst hcc c2r htx
          by_cases hle : j ≤ 40
          · obtain ⟨m, hm⟩ := deep_ok hk.out hle
            rw [hm] at hcall
            replace hcall := Lib.hid hcall
            have hleD : decide ((j : Int) ≤ 40) = true := by simp; omega
            generalize sb (dText k j) = TX at hcall hsq
            generalize sb (dA ++ (repL j (dH k) ++ ([122] ++ repL j (dE k)))) = C2 at *
            go_wp2_with fail
            refine hcall.out.mono ?_
            rintro e w6 ⟨v, rfl, rep6, g6⟩
            obtain ⟨bv, lv, vs, rfl, hb6, hr6, _⟩ := rep6
            obtain ⟨ba, bc, rfl⟩ := hb6.sv
            obtain ⟨la, ln, lc, rfl⟩ : ∃ a n c, lv = .slice a n c := by
              rcases hr6 with ⟨_, a, c, rfl⟩ | ⟨g, cap, cur, rfl, _⟩
              · exact ⟨_, _, _, rfl⟩
              · exact ⟨_, _, _, rfl⟩
            have gF := hG0.out _ (hGq.out.trans g6)
            replace gF := Lib.hid gF
            go_wp2_with fail
            go_ret
            exact ⟨rfl, gF.out.trans (Gr.alloc _ _ _)⟩
          · have hm := deep_err hk.out (show 41 ≤ j by omega) hn.out
            rw [hm] at hcall
            have hleD : decide ((j : Int) ≤ 40) = false := by simp; omega
            have hat : ((4 + dMany k * 40 + dLead k : Nat) : Int) = 4 + (dMany k : Int) * 40 + (dLead k : Int) := by push_cast; rfl
            have hcall' : Calls Tryd.prog 15 #[.string (sb (dText k j))] wr fun e w' => e = .returned (.tuple #[tr0v, .int .i64 (4 + (dMany k : Int) * 40 + (dLead k : Int)), .int .i64 161]) ∧ Gr (fun _ => False) wr w' := hcall.mono fun e w' ⟨h1, h2⟩ => ⟨by rw [← hat]; exact h1, h2⟩
            replace hcall' := Lib.hid hcall'
            have hx1 : IntKind.i64.wrap ((dMany k : Int) * 40) = (dMany k : Int) * 40 := by rw [IntKind.wrap_i64]; omega
            have hx2 : IntKind.i64.wrap (4 + (dMany k : Int) * 40) = 4 + (dMany k : Int) * 40 := by rw [IntKind.wrap_i64]; omega
            have hx3 : IntKind.i64.wrap (4 + (dMany k : Int) * 40 + (dLead k : Int)) = 4 + (dMany k : Int) * 40 + (dLead k : Int) := by rw [IntKind.wrap_i64]; omega
            clear hcall hat hm
            generalize sb (dText k j) = TX at hcall' hsq
            generalize sb (dA ++ (repL j (dH k) ++ ([122] ++ repL j (dE k)))) = C2 at *
            go_wp2_with fail
            refine hcall'.out.mono ?_
            rintro e w6 ⟨rfl, g6⟩
            have gF := hG0.out _ (hGq.out.trans g6)
            have hs6 := g6.size
            have gA := Gr.alloc w6 (.cells zc 25) (fun _ => False)
            have d3 := cell_gr (cell_gr c3r g6 (fun e => e)) gA (fun e => e)
            have d4 := cell_gr (cell_gr c4r g6 (fun e => e)) gA (fun e => e)
            have zA := gA.size
            have y1 : b + 1 + 1 < (w6.alloc (.cells zc 25)).heap.size := by omega
            have y2 : b + 1 + 1 + 1 < (w6.alloc (.cells zc 25)).heap.size := by omega
            have gF2 := Lib.hid (gF.trans gA)
            clear c3r c4r gF gA
            go_wp2_with fail
            generalize w6.alloc _ = w7 at *
            go_quiet (fail)
            go_wp2_with fail
            go_ret
            exact ⟨by simp, gF2.out.trans (Gr.drewN _ _ _)⟩

set_option maxRecDepth 100000 in
set_option maxHeartbeats 1600000 in
theorem deep_in_n (W : World) (n k : Nat) (kd : Int) (hn : n ≤ 300) (hk : k < 9) (hkd : kd < 0) (hlo : -9223372036854775808 ≤ kd) (hkm : (-(kd + 1)).tmod 9 = (k : Int)) (hal : Calls Tryd.prog 7 #[] W fun e w' => e = .returned (.bool true) ∧ Gr (fun _ => False) W w')
    (htx : ∀ w, Gr (fun _ => False) W w → Calls Tryd.prog 15 #[.string (sb (dText k n))] w fun e w' => EndP w e w' (textV (sb (dText k n)))) :
    Calls Tryd.prog 5 #[.int .i64 (n : Int), .int .i64 kd] W fun e w' => e = .returned (.bool true) ∧ Gr (fun _ => False) W w' := by
  have hnI : (n : Int) ≤ 300 := by omega
  have hkI : (k : Int) < 9 := by omega
  replace hn := Lib.hid hn
  replace htx := Lib.hid htx
  replace hk := Lib.hid hk
  go_enter Tryd.func5, Tryd.ntmps5
  go_wp2_with fail
  refine hal.mono ?_
  rintro e w1 ⟨rfl, g1⟩
  clear hal
  have F := four_rows w1 k hk.out
  go_wp2_with fail
  obtain ⟨w5, hw5⟩ : ∃ w5, w5 = (((w1.alloc (.cells rwH 9)).alloc (.cells rwE 9)).alloc (.cells rwL 3)).alloc (.cells rwM 3) := ⟨_, rfl⟩
  obtain ⟨G5, z5, c1, c2, c3, c4⟩ := F w5 hw5
  clear F
  rw [show (((w1.alloc (.cells rwH 9)).alloc (.cells rwE 9)).alloc (.cells rwL 3)).alloc (.cells rwM 3) = w5 from hw5.symm]
  clear hw5
  obtain ⟨b, hb⟩ : ∃ b, w1.heap.size = b := ⟨_, rfl⟩
  rw [hb] at c1 c2 c3 c4 z5 ⊢
  have hbs : b + 3 < w5.heap.size := by omega
  clear z5
  have hG0 : Hid (∀ w, Gr (fun _ => False) w5 w → Gr (fun _ => False) W w) := fun w g => (g1.trans G5).trans g
  obtain ⟨s1, s2, s3, s4, s5, _⟩ := sz_facts hk.out
  have hsH : Hid (∀ i, i ≤ n → (sb (dA ++ repL i (dH k))).size ≤ 6000) := fun i hi => by
    show _ ≤ _
    rw [sb_sz, List.length_append, repL_len]
    have := mul_le (Nat.le_trans hi hn.out) s1
    have : dA.length = 7 := rfl
    omega
  have hsE : Hid (∀ i, i ≤ n → (sb (dA ++ (repL n (dH k) ++ ([122] ++ repL i (dE k))))).size ≤ 6000) := fun i hi => by
    show _ ≤ _
    rw [sb_sz, List.length_append, List.length_append, List.length_append, repL_len, repL_len]
    have := mul_le hn.out s1
    have := mul_le (Nat.le_trans hi hn.out) s2
    have : dA.length = 7 := rfl
    have : ([122] : List Int).length = 1 := rfl
    omega
  have hd1 : Hid ((sb (dH k)).size ≤ 15) := by show _ ≤ _; rw [sb_sz]; exact s1
  have hd2 : Hid ((sb (dE k)).size ≤ 4) := by show _ ≤ _; rw [sb_sz]; exact s2
  have hmany : (dMany k : Int) ≤ 5 := by omega
  have hlead : (dLead k : Int) ≤ 5 := by omega
  clear s1 s2 s3 s4 s5 g1 G5
  go_loopw [10, 11] (fun u10 u11 wr => ∃ i : Nat, i ≤ n ∧ u11 = .int .i64 (i : Int) ∧ u10 = .string (sb (dA ++ repL i (dH k))) ∧ Gr (fun _ => False) w5 wr) (fun _ u11 _ => n - (intOf u11).toNat)
  case atStart => exact ⟨0, Nat.zero_le _, rfl, by rw [repL_zero, List.append_nil]; rfl, Gr.refl _ _⟩
  case round =>
    obtain ⟨i, hi, rfl, rfl, hG⟩ := hrel
    have c1r := cell_gr c1 hG (fun e => e)
    have hszr := hG.size
    have hbw : b < wr.heap.size := by omega
    by_cases hlt : i < n
    · have h1 : decide ((i : Int) < (n : Int)) = true := by simp; omega
      have hcc : (sb (dA ++ repL i (dH k))).size + (sb (dH k)).size ≤ 9223372036854775807 := by have := hsH.out i hi; have := hd1.out; omega
      have hst : Hid (sb (dA ++ repL i (dH k)) ++ sb (dH k) = sb (dA ++ repL (i + 1) (dH k))) := by show _ = _; rw [sb_app, repL_snoc, List.append_assoc]
      have hiI : (i : Int) ≤ 300 := by omega
      clear c1 c2 c3 c4 hsH hsE hd1 hd2
      replace hG := Lib.hid hG
      generalize sb (dA ++ repL i (dH k)) = C at *
      generalize sb (dH k) = D at *
      go_wp2_with fail
      exact ⟨⟨i + 1, hlt, by go_num, by rw [hst.out], hG.out⟩, by simp [intOf]; omega⟩
    · obtain rfl : i = n := by omega
      have h1 : decide ((i : Int) < (i : Int)) = false := by simp
      have hcc : (sb (dA ++ repL i (dH k))).size + 1 ≤ 9223372036854775807 := by have := hsH.out i hi; omega
      have hst : Hid (sb (dA ++ repL i (dH k)) ++ ⟨#[122]⟩ = sb (dA ++ (repL i (dH k) ++ ([122] ++ repL 0 (dE k))))) := by
        show _ = _
        rw [show (⟨#[122]⟩ : ByteArray) = sb [122] from rfl, sb_app, repL_zero, List.append_nil, List.append_assoc]
      clear c1r hi hlt
      have hG' := Lib.hid hG
      clear hG
      generalize sb (dA ++ repL i (dH k)) = C at hcc hst ⊢
      go_wp2_with fail
      go_loopw [10, 12] (fun u10 u12 wq => ∃ j : Nat, j ≤ i ∧ u12 = .int .i64 (j : Int) ∧ u10 = .string (sb (dA ++ (repL i (dH k) ++ ([122] ++ repL j (dE k))))) ∧ Gr (fun _ => False) w5 wq) (fun _ u12 _ => i - (intOf u12).toNat)
      case atStart => exact ⟨0, Nat.zero_le _, rfl, by rw [hst.out], hG'.out⟩
      case round =>
        obtain ⟨j, hj, rfl, rfl, hGq⟩ := hrel
        have c2r := cell_gr c2 hGq (fun e => e)
        have hszq := hGq.size
        have hbq : b + 1 < wr.heap.size := by omega
        by_cases hlt : j < i
        · have h2 : decide ((j : Int) < (i : Int)) = true := by simp; omega
          have hcq : (sb (dA ++ (repL i (dH k) ++ ([122] ++ repL j (dE k))))).size + (sb (dE k)).size ≤ 9223372036854775807 := by have := hsE.out j hj; have := hd2.out; omega
          have hsq : Hid (sb (dA ++ (repL i (dH k) ++ ([122] ++ repL j (dE k)))) ++ sb (dE k) = sb (dA ++ (repL i (dH k) ++ ([122] ++ repL (j + 1) (dE k))))) := by
            show _ = _
            rw [sb_app, repL_snoc]; simp
          have hjI : (j : Int) ≤ 300 := by omega
          clear c1 c2 c3 c4 hsH hsE hd1 hd2 hst hcc
          replace hGq := Lib.hid hGq
          generalize sb (dA ++ (repL i (dH k) ++ ([122] ++ repL j (dE k)))) = C2 at *
          generalize sb (dE k) = D at *
          go_wp2_with fail
          exact ⟨⟨j + 1, hlt, by go_num, by rw [hsq.out], hGq.out⟩, by simp [intOf]; omega⟩
        · obtain rfl : j = i := by omega
          have h2 : decide ((j : Int) < (j : Int)) = false := by simp
          have hcq : (sb (dA ++ (repL j (dH k) ++ ([122] ++ repL j (dE k))))).size + 1 ≤ 9223372036854775807 := by have := hsE.out j hj; omega
          have hsq : sb (dA ++ (repL j (dH k) ++ ([122] ++ repL j (dE k)))) ++ ⟨#[46]⟩ = sb (dText k j) := by
            rw [show (⟨#[46]⟩ : ByteArray) = sb [46] from rfl, sb_app]
            unfold dText
            simp
          have c3r := cell_gr c3 hGq (fun e => e)
          have c4r := cell_gr c4 hGq (fun e => e)
          have hcall := htx.out _ (hG0.out _ hGq)
          replace hGq := Lib.hid hGq
          clear c1 c2 c3 c4 hsH hsE hd1 hd2 hst hcc c2r htx
          by_cases hle : j ≤ 40
          · obtain ⟨m, hm⟩ := deep_ok hk.out hle
            rw [hm] at hcall
            replace hcall := Lib.hid hcall
            have hleD : decide ((j : Int) ≤ 40) = true := by simp; omega
            generalize sb (dText k j) = TX at hcall hsq
            generalize sb (dA ++ (repL j (dH k) ++ ([122] ++ repL j (dE k)))) = C2 at *
            go_wp2_with fail
            refine hcall.out.mono ?_
            rintro e w6 ⟨v, rfl, rep6, g6⟩
            obtain ⟨bv, lv, vs, rfl, hb6, hr6, _⟩ := rep6
            obtain ⟨ba, bc, rfl⟩ := hb6.sv
            obtain ⟨la, ln, lc, rfl⟩ : ∃ a n c, lv = .slice a n c := by
              rcases hr6 with ⟨_, a, c, rfl⟩ | ⟨g, cap, cur, rfl, _⟩
              · exact ⟨_, _, _, rfl⟩
              · exact ⟨_, _, _, rfl⟩
            have gF := hG0.out _ (hGq.out.trans g6)
            replace gF := Lib.hid gF
            go_wp2_with fail
            go_ret
            exact ⟨rfl, gF.out.trans (Gr.alloc _ _ _)⟩
          · have hm := deep_err hk.out (show 41 ≤ j by omega) hn.out
            rw [hm] at hcall
            have hleD : decide ((j : Int) ≤ 40) = false := by simp; omega
            have hat : ((4 + dMany k * 40 + dLead k : Nat) : Int) = 4 + (dMany k : Int) * 40 + (dLead k : Int) := by push_cast; rfl
            have hcall' : Calls Tryd.prog 15 #[.string (sb (dText k j))] wr fun e w' => e = .returned (.tuple #[tr0v, .int .i64 (4 + (dMany k : Int) * 40 + (dLead k : Int)), .int .i64 161]) ∧ Gr (fun _ => False) wr w' := hcall.mono fun e w' ⟨h1, h2⟩ => ⟨by rw [← hat]; exact h1, h2⟩
            replace hcall' := Lib.hid hcall'
            have hx1 : IntKind.i64.wrap ((dMany k : Int) * 40) = (dMany k : Int) * 40 := by rw [IntKind.wrap_i64]; omega
            have hx2 : IntKind.i64.wrap (4 + (dMany k : Int) * 40) = 4 + (dMany k : Int) * 40 := by rw [IntKind.wrap_i64]; omega
            have hx3 : IntKind.i64.wrap (4 + (dMany k : Int) * 40 + (dLead k : Int)) = 4 + (dMany k : Int) * 40 + (dLead k : Int) := by rw [IntKind.wrap_i64]; omega
            clear hcall hat hm
            generalize sb (dText k j) = TX at hcall' hsq
            generalize sb (dA ++ (repL j (dH k) ++ ([122] ++ repL j (dE k)))) = C2 at *
            go_wp2_with fail
            refine hcall'.out.mono ?_
            rintro e w6 ⟨rfl, g6⟩
            have gF := hG0.out _ (hGq.out.trans g6)
            have hs6 := g6.size
            have gA := Gr.alloc w6 (.cells zc 25) (fun _ => False)
            have d3 := cell_gr (cell_gr c3r g6 (fun e => e)) gA (fun e => e)
            have d4 := cell_gr (cell_gr c4r g6 (fun e => e)) gA (fun e => e)
            have zA := gA.size
            have y1 : b + 1 + 1 < (w6.alloc (.cells zc 25)).heap.size := by omega
            have y2 : b + 1 + 1 + 1 < (w6.alloc (.cells zc 25)).heap.size := by omega
            have gF2 := Lib.hid (gF.trans gA)
            clear c3r c4r gF gA
            go_wp2_with fail
            generalize w6.alloc _ = w7 at *
            go_quiet (fail)
            go_wp2_with fail
            go_ret
            exact ⟨by simp, gF2.out.trans (Gr.drewN _ _ _)⟩

theorem deep_out (W : World) (n kd : Int) (ho : n < 0 ∨ 300 < n) (ha : Calls Tryd.prog 7 #[] W fun e w' => e = .returned (.bool true) ∧ Gr (fun _ => False) W w') :
    Calls Tryd.prog 5 #[.int .i64 n, .int .i64 kd] W fun e w' => e = .returned (.bool true) ∧ Gr (fun _ => False) W w' := by
  rcases ho with ho | ho
  all_goals
    go_enter Tryd.func5, Tryd.ntmps5
    go_wp2_with fail
    refine ha.mono ?_
    rintro e w1 ⟨rfl, hg1⟩
    go_wp2_with fail
    go_ret
    exact ⟨rfl, hg1⟩
theorem deep_c (W : World) (n kd : Int) (hkd : -9223372036854775808 ≤ kd) (hE : Er W) (hS : Sg W) (hL : Lv W) : Calls Tryd.prog 5 #[.int .i64 n, .int .i64 kd] W fun e w' => e = .returned (.bool true) ∧ Gr (fun _ => False) W w' := by
  have hal := alive_c W hE hS hL
  by_cases ho : n < 0 ∨ 300 < n
  · exact deep_out W n kd ho hal
  · obtain ⟨m, rfl⟩ : ∃ m : Nat, n = (m : Int) := ⟨n.toNat, by omega⟩
    have htx : ∀ (k : Nat) (w : World), Gr (fun _ => False) W w → Calls Tryd.prog 15 #[.string (sb (dText k m))] w fun e w' => EndP w e w' (textV (sb (dText k m))) := fun k w g => text_c w _ (hE.gr g (fun e => e)) (hS.gr g (fun e => e)) (hL.gr g (fun e => e) (fun e => e))
    by_cases hk : kd < 0
    · have h1 : 0 ≤ (-(kd + 1)).tmod 9 := Int.tmod_nonneg _ (by omega)
      have h2 : (-(kd + 1)).tmod 9 < 9 := Int.tmod_lt_of_pos _ (by omega)
      obtain ⟨k, hkk⟩ : ∃ k : Nat, (-(kd + 1)).tmod 9 = (k : Int) := ⟨((-(kd + 1)).tmod 9).toNat, by omega⟩
      exact deep_in_n W m k kd (by omega) (by omega) hk hkd hkk hal (htx k)
    · have h1 : 0 ≤ kd.tmod 9 := Int.tmod_nonneg _ (by omega)
      have h2 : kd.tmod 9 < 9 := Int.tmod_lt_of_pos _ (by omega)
      obtain ⟨k, hkk⟩ : ∃ k : Nat, kd.tmod 9 = (k : Int) := ⟨(kd.tmod 9).toNat, by omega⟩
      exact deep_in_p W m k kd (by omega) (by omega) (by omega) hkk hal (htx k)
end Go.Proofs.YtbmbgnmkakkpfaaDoor
