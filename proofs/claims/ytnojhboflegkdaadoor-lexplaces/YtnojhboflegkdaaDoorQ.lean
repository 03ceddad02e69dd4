/-
  The walk of LexPlaces.
-/
import Derived.Test.YtnojhboflegkdaaDoorO
set_option linter.unusedVariables false
set_option linter.unusedSimpArgs false
namespace Go.Proofs.YtnojhboflegkdaaDoor
open Go.RowKit Go.Maps

theorem slx (s : ByteArray) (a c : Nat) (z : Int) (hz : (c : Int) = z) (h1 : a ≤ c) (h2 : c ≤ s.size) (w : World) : (Instr.slice 9 (.string s) (some (.int .i64 (a : Int))) (some (.int .i64 z)) none).run Tryd.prog w = .ok (.string (s.extract a c)) w := by
  subst hz; exact sl s a c h1 h2 w

set_option maxRecDepth 100000 in
set_option maxHeartbeats 4000000 in
theorem places_walk (s : ByteArray) (W : World) (hE : Er W) (hS : Sg W) (hT : Tb W) : Calls Tryd.prog 6 #[.string s] W fun e w' => e = .returned (.bool true) ∧ Gr (fun _ => False) W w' := by
  have ha := alive_c W hE hS hT
  have hp := fun w (g : Gr (fun _ => False) W w) => scan_c w s (hE.gr g (fun e => e)) (hS.gr g (fun e => e))
  cases hr : scanV s with
  | error x =>
    obtain ⟨j, c⟩ := x
    rw [hr] at hp
    obtain ⟨e1, e2, e3⟩ := scanV_err hr
    have c1 : (c != 0) = true := by rw [bne_iff_ne]; omega
    have c2 : (j : Int) ≤ (s.size : Int) := by omega
    clear hr e1 e2 e3 hE hS hT
    go_enter Tryd.func6, Tryd.ntmps6
    go_wp2_with fail
    refine ha.mono ?_
    rintro e w1 ⟨rfl, hg1⟩
    go_wp2_with fail
    refine (hp _ hg1).mono ?_
    rintro e w2 ⟨rfl, hg2⟩
    go_wp2_with fail
    go_ret
    exact ⟨by simp, hg1.trans hg2⟩
  | ok l =>
    rw [hr] at hp
    obtain ⟨hsz, hat, hpw⟩ := scanV_at hr
    have hlen := scanV_len hr
    have hsI : (s.size : Int) ≤ 16384 := by omega
    have hlI : (l.length : Int) ≤ 4000 := by omega
    replace hat := Lib.hid hat
    replace hpw := Lib.hid hpw
    clear hr hE hS hT hsz hlen
    go_enter Tryd.func6, Tryd.ntmps6
    go_wp2_with fail
    refine ha.mono ?_
    rintro e w1 ⟨rfl, hg1⟩
    go_wp2_with fail
    refine (hp _ hg1).mono ?_
    rintro e w2 ⟨sv, vs, rfl, hTk, hg2⟩
    obtain ⟨a, c, rfl⟩ := hTk.sv
    have hG := Lib.hid (hg1.trans hg2)
    replace hTk := Lib.hid hTk
    clear hp ha hg1 hg2
    go_wp2_with fail
    go_loopw [6] (fun u wr => ∃ j : Nat, j ≤ l.length ∧ u = .int .i64 (j : Int) ∧ Hid (Gr (fun _ => False) w2 wr)) (fun u _ => l.length - (intOf u).toNat)
    case atStart => exact ⟨0, Nat.zero_le _, rfl, Gr.refl _ _⟩
    case round =>
      obtain ⟨j, hj, rfl, hgr⟩ := hrel
      by_cases hlt : j < l.length
      · have hjI : (j : Int) < (l.length : Int) := by omega
        obtain ⟨g, rfl, hgl, hcap, hrow⟩ := hTk.out.row (by omega)
        obtain ⟨t, ht⟩ : ∃ t, l[j]? = some t := ⟨_, List.getElem?_eq_getElem hlt⟩
        obtain ⟨ba, bc, hB, c0, c1, c2, c3, c4⟩ := (hrow j t ht).gr hgr.out
        obtain ⟨p1, p2, p3⟩ := hat.out t (List.mem_of_getElem? ht)
        have hglw : g < wr.heap.size := by have := hgr.out.size; omega
        have q1 : decide ((t.at' : Int) < 0) = false := by simp
        have q2 : decide ((s.size : Int) ≤ (t.at' : Int)) = false := by simp; omega
        have q0 : (t.at' : Int) < s.size := by omega
        have q3 : decide (s.size ≤ t.at') = false := by simp; omega
        have hprev : ∀ m, j = m + 1 → ∃ u : Tok, wr.cell? ⟨g, m * 5 + 4, none⟩ = some (.int .i64 (u.at' : Int)) ∧ decide (t.at' ≤ u.at') = false := fun m hm => by
          obtain ⟨u, hu⟩ : ∃ u, l[m]? = some u := ⟨_, List.getElem?_eq_getElem (by omega)⟩
          obtain ⟨_, _, _, _, _, _, _, d4⟩ := (hrow m u hu).gr hgr.out
          refine ⟨u, d4, ?_⟩
          have hm1 : m < l.length := by omega
          have := (List.pairwise_iff_getElem.1 hpw.out) m j hm1 hlt (by omega)
          rw [List.getElem?_eq_getElem hm1] at hu
          rw [List.getElem?_eq_getElem hlt] at ht
          cases hu; cases ht
          simp; omega
        replace hprev := Lib.hid hprev
        replace hB := Lib.hid hB
        clear hrow ht hgl
        have hx := ix s t.at' p1
        obtain ⟨n, hn⟩ : ∃ n, t.s.size = n := ⟨_, rfl⟩
        rw [hn] at p2
        have hcut : Hid (0 < n → ∀ w, (Instr.slice 9 (.string s) (some (.int .i64 (t.at' : Int))) (some (.int .i64 ((t.at' : Int) + (n : Int)))) none).run Tryd.prog w = .ok (.string t.s) w) := fun h0 w => by
          rw [slx s t.at' (t.at' + n) _ (by omega) (by omega) (p2 h0).1 w, (p2 h0).2]
        have hnb : Hid (0 < n → t.at' + n ≤ s.size) := fun h0 => (p2 h0).1
        have key : (j = 0) ∨ ∃ m, j = m + 1 := by cases j with | zero => exact .inl rfl | succ m => exact .inr ⟨m, rfl⟩
        have keyn : n = 0 ∨ 0 < n := by omega
        have key4 : (t.k = 4 ∧ bt s t.at' = 34) ∨ (t.k == 4) = false := by
          by_cases h4 : t.k = 4
          · exact .inl ⟨h4, p3 h4⟩
          · exact .inr (by simpa using h4)
        clear p1 p2 p3 q0
        rcases key with rfl | ⟨m, rfl⟩
        all_goals
          try obtain ⟨u, d4, d5⟩ := hprev.out _ rfl
          rcases keyn with rfl | hn0
          all_goals
            try have hnb' : decide ((s.size : Int) < (t.at' : Int) + (n : Int)) = false := (by have := hnb.out hn0; simp; omega)
            try have hcut' := hcut.out hn0
            try have hsum : (t.at' : Int) + (n : Int) ≤ 16384 := (by have := hnb.out hn0; omega)
            try have hnI : (0 : Int) < (n : Int) := by omega
            rcases key4 with ⟨k4, kb⟩ | k4
            all_goals
              try rw [kb] at hx
              try rw [k4] at c0
              try clear kb
              go_wp2_with fail
              go_quiet (fail)
              go_wp2_with fail
              first
                | exact ⟨⟨m + 1 + 1, by omega, by go_num, hgr.out.trans (Gr.drewN _ _ _)⟩, by simp [intOf]; omega⟩
                | exact ⟨⟨1, by omega, by go_num, hgr.out.trans (Gr.drewN _ _ _)⟩, by simp [intOf]; omega⟩
      · obtain rfl : j = l.length := by omega
        go_wp2_with fail
        go_ret
        exact ⟨rfl, hG.out.trans hgr.out⟩
end Go.Proofs.YtnojhboflegkdaaDoor
