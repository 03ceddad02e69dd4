/-
  Carried over from another seat of ours (QL).
-/
import Derived.Test.YtfamepdghememaaQK
import Derived.Maps.RangeRun
import Derived.Maps.RangeWalk
set_option linter.unusedVariables false
set_option linter.unusedSimpArgs false
namespace Go.Proofs.Ytfamepdghememaa
open Go.RowKit Go.Maps Go.WideMaps
attribute [local go_sem] Oper.semAt_some
variable {S S' : Nat → Prop} {W W1 W' : World}
theorem Gr.ranges {mb rb n cnt : Nat} {D : DataW Value} {left : Go.Lit → Bool} (h : W.ranges Try.prog 9 RR mb rb n D left cnt) (g : Gr S W W') (h1 : ¬ S mb) (h2 : ¬ S rb) : W'.ranges Try.prog 9 RR mb rb n D left cnt := by
  have l1 := h.owns.lt
  have l2 := h.lt
  obtain ⟨es, clock, since, seen, c0, hb, F, hs, hD, hr, rest⟩ := h
  exact ⟨es, clock, since, seen, c0, (g.block mb l1 h1).trans hb, F, hs, hD, (g.block rb l2 h2).trans hr, rest⟩
set_option maxRecDepth 20000 in
set_option maxHeartbeats 1600000 in
theorem mcopy_c (W : World) (mb n : Nat) (R : ByteArray → Option Value) (hM : Mo W mb z9 n R) (hn : n ≤ 1) (hsz : ∀ s v, R s = some v → s.size ≤ 1000) (hv : ∀ s v, R s = some v → ∃ t a1 c1 a2 c2, v = lv t a1 c1 a2 c2) :
    Calls Try.prog 16 #[.map (some mb)] W fun e w' => ∃ ob, e = .returned (.map (some ob)) ∧ W.heap.size ≤ ob ∧ Mo w' ob z9 n R ∧ Gr (fun _ => False) W w' := by
  have hlen := hM.len Try.underlying48 3
  have hmm : ∀ w, (Instr.makeMap 48 (some (.int .i64 (n : Int)))).run Try.prog w = .ok (.map (some w.heap.size)) (w.alloc (.map #[] 0)) := fun w => by
    simp [Instr.makeMap, run_underlying Try.underlying48, asInt, Result.andThen]
    rfl
  have hmb := hM.lt
  have ga := Gr.alloc W (.map #[] 0) (fun _ => False)
  obtain ⟨D, hD, hDs, hDk⟩ := hM.gr ga (fun e => e)
  obtain ⟨w1, hrun, hrg, hgr1, hsz1⟩ := hD.range law9 Try.underlying48
  rw [World.size_alloc] at hrun hrg hsz1
  have g1 : Gr (fun _ => False) (W.alloc (.map #[] 0)) w1 := Gr.of_grown hgr1 (fun k e => by cases e)
  have O1 : Hid (Mo w1 W.heap.size z9 0 (fun _ => none)) := Lib.hid ((Mo.new W z9).gr g1 (fun e => e))
  have G1 := Lib.hid (ga.trans g1)
  have R1 := Lib.hid hrg
  have Z1 := Lib.hid hsz1
  have HD := Lib.hid hDk
  have HDs := Lib.hid hDs
  have Hn := Lib.hid hn
  have Hsz := Lib.hid hsz
  have Hv := Lib.hid hv
  clear hM ga hD hDs hDk hrg hgr1 g1 hsz1 hn hsz hv
  go_enter Try.func16, Try.ntmps16
  go_wp2_with fail
  go_loopw [11] (fun v wr => ∃ (left : Go.Lit → Bool) (cnt n2 : Nat) (R2 : ByteArray → Option Value), Hid (wr.ranges Try.prog 9 RR mb (W.heap.size + 1) n D left cnt) ∧ Hid (Mo wr W.heap.size z9 n2 R2) ∧ Hid (∀ s, R2 s = if left (kOf s) = true then none else R s) ∧ Hid (n2 + cnt = n) ∧ Hid (Gr (fun _ => False) W wr)) (fun _ wr => wr.rangeLeft mb (W.heap.size + 1))
  case atStart =>
    refine ⟨_, _, 0, _, R1, O1, Lib.hid (fun s => ?_), Lib.hid (by rw [HDs.out]; omega), G1⟩
    rw [(HD.out s).1]
    cases R s <;> simp
  case round =>
    obtain ⟨left, cnt, n2, R2, hrg, hO, hR2, hcnt, hG⟩ := hrel
    clear R1 O1 G1 Z1 hlen hmm hrun
    rcases hrg.out.next law9 0 with ⟨h0, hlf, hrun⟩ | ⟨key, v, kl, y, w2, cnt', hkey, hleft, hRy, hat, hrun, hrg2, hlt, hgr2, hs2, hent⟩
    · have eR : R2 = R := funext fun s => by rw [hR2.out s, hlf (kOf s)]; rfl
      have en : n2 = n := by have := hcnt.out; omega
      subst eR en
      clear hlf
      go_wp2_with fail
      go_ret
      exact ⟨_, rfl, Nat.le_refl _, hO.out, hG.out⟩
    · obtain ⟨s, rfl, rfl, hsm⟩ := string_of_keyOf Try.underlying9 hkey
      have hyv : y = (.held v, []) := by simp only [RR, Option.some.injEq] at hRy; exact hRy.symm
      subst hyv
      have hDs := HD.out s
      have hat' := hat (.held z9)
      have hhas : Maps.has D (kOf s) = true := has_true_of_atKey hat
      have hRs : R s = some v := by
        rw [hDs.1] at hhas
        rw [hDs.2] at hat'
        cases hR : R s with
        | none => rw [hR] at hhas; cases hhas
        | some u => rw [hR] at hat'; simp at hat'; rw [hat']
      have hs1000 := Hsz.out s v hRs
      obtain ⟨t, a1, c1, a2, c2, rfl⟩ := Hv.out s v hRs
      have hR2s : R2 s = none := by rw [hR2.out s]; exact if_pos hleft
      have hc1 : cnt = 1 ∧ cnt' = 0 := by have := Hn.out; have := hcnt.out; omega
      have hg2 : Gr (fun i => i = W.heap.size + 1) wr w2 := Gr.of_grown hgr2 (fun k e => by cases e; rfl)
      have sG := hG.out.size
      have hO2 := hO.out.gr hg2 (by omega)
      have ga := Gr.alloc w2 (.cells #[.int .i64 t.k, .int .i64 t.n, .complex .f64 t.x t.y, .string t.s, .int .i64 t.a, .int .u32 t.c, .int .u64 t.d, .slice a1 0 c1, .slice a2 0 c2] 31) (fun _ => False)
      obtain ⟨w3, hput, hO3, hg3, hz3⟩ := (hO2.gr ga (fun e => e)).put Try.underlying48 s hs1000 (by have := Hn.out; have := hcnt.out; omega) (lv t a1 c1 a2 c2)
      rw [hR2s] at hO3
      have hrg3 := Lib.hid (Gr.ranges (Gr.ranges hrg2 ga (fun e => e) (fun e => e)) hg3 (by omega) (by omega))
      have HO3 : Hid (Mo w3 W.heap.size z9 (n2 + 1) (ins R2 s (lv t a1 c1 a2 c2))) := Lib.hid hO3
      have HG3 := Lib.hid (((hG.out.trans' hg2 (fun i hi e => by omega)).trans ga).trans' hg3 (fun i hi e => by omega))
      have HR3 : Hid (∀ x, ins R2 s (lv t a1 c1 a2 c2) x = if (left (kOf x) && !(kOf x).sameKey (kOf s)) = true then none else R x) := Lib.hid (fun x => by
        by_cases e : x = s
        · subst e
          rw [ins_same, WideAt.sameKey_self (show WideAt.IsKeyLit (kOf x) from trivial)]
          simp [hRs]
        · rw [ins_other _ _ e, hR2.out x]
          have : (kOf x).sameKey (kOf s) = false := by
            cases h : (kOf x).sameKey (kOf s)
            · rfl
            · exact absurd (WideAt.sameKey_eq h) (kOf_ne e)
          rw [this]; simp)
      have hcl := hrg.out.left_eq
      have hcl3 := hrg3.out.left_eq
      have Hc := Lib.hid hc1
      have Hcl := Lib.hid (And.intro hcl hcl3)
      have Hcnt := Lib.hid hcnt.out
      clear hrg2 hgr2 hkey hRy hat hat' hDs hhas hO3 hg3 ga hO2 hg2 hrg hO hR2 hG hcnt hcl hcl3 hleft hc1 hlt
      obtain ⟨tk, tn, tx, ty, tS, ta, tc, td⟩ := t
      go_wp2_with fail
      refine ⟨⟨_, _, _, _, hrg3, HO3, HR3, Lib.hid (by have := Hc.out; have := Hcnt.out; omega), HG3⟩, ?_⟩
      rw [Hcl.out.1, Hcl.out.2]; have := Hc.out; omega
end Go.Proofs.Ytfamepdghememaa

