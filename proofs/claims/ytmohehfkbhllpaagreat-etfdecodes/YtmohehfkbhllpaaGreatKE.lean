/-
  Carried over from another seat of ours (KE).
  Carried over from another seat of ours (KF).
-/
import Derived.Test.YtmohehfkbhllpaaGreatKD
import Derived.ScopeJumps
import Derived.WalkMore
set_option linter.unusedVariables false
set_option linter.unusedSimpArgs false
namespace Go.Proofs.YtmohehfkbhllpaaGreat
open Go.RowKit Go.Maps
variable {S S' Z F : Nat → Prop} {W W1 W' : World}

/-- A callee that throws, within a region that draws its order: what would follow a return is asked for under False alone. -/
theorem mono_thr {f : Nat} {args : Array Value} {w : World} {c : Int} {R : World → Prop} {M : Ending → World → Prop} (v : Value) (hc : Calls Tryz.prog f args w fun e w' => e = thr c ∧ R w') (hp : ∀ w', R w' → M (thr c) w') (_ : Hid False → M (.returned v) w) : Calls Tryz.prog f args w M :=
  hc.mono (fun _ w' h => by obtain ⟨rfl, h⟩ := h; exact hp w' h)
set_option maxRecDepth 20000 in
set_option maxHeartbeats 1600000 in
theorem name_c (W : World) (b n tb : Nat) (m : List Int) (l : List ByteArray) (h : Rt Z F W b n tb m l) (hl : l.length ≤ 4096) : Calls Tryz.prog 27 #[pt b] W fun e w' => EndY Z F W b n tb e w' (nmq m l) := by
  have hnum := fun w (g : Gr (fun _ => False) W w) => number_c w b n tb m (h.re.g0 g)
  have hm1 : ∀ w' : World, Gr (fun k => k = b) W w' → Gr (fun k => k = b ∨ F k) W w' := fun w' g => g.mono (fun _ _ e => .inl e)
  obtain ⟨lv, hB, hqq, hz⟩ := h.re
  obtain ⟨c0, c1, c2, f0, f1⟩ := three46 hB
  obtain ⟨mp, sv, htab, hF⟩ := h.tab
  have hlen1 := fun w (g : Gr (fun k => k = b) W w) => len_c w tb mp sv l (htab.gr g (fun i hi e => h.nb (e ▸ hF i hi)))
  have hbl := (Array.getElem?_eq_some_iff.1 hB).1
  cases hr : nmb 10 0 0 m with
  | error c =>
    rw [show nmq m l = .error c by simp [nmq, hr]]
    rw [hr] at hnum
    replace hm1 := Lib.hid hm1
    replace hnum := Lib.hid hnum
    replace hlen1 := Lib.hid hlen1
    go_enter Tryz.func27, Tryz.ntmps27
    go_wp2_with fail
    go_region_with (first
      | (go_at_call 25; refine mono_thr (.int .u64 0) (hnum.out _ (Gr.drew W _)) (fun w' hg => ⟨rfl, rfl, hm1.out w' ((Gr.drew W _).trans hg)⟩) (fun hf => ?_); dsimp only)
      | (go_at_call 50; refine (hlen1.out _ (Gr.drew W _)).mono ?_; rintro e w2 ⟨rfl, rfl⟩)
      | fail)
    all_goals exact hf.out.elim
  | ok x =>
    obtain ⟨u, r⟩ := x
    rw [hr] at hnum
    have hlI : (l.length : Int) ≤ 4096 := by omega
    have hl0 : (0 : Int) ≤ (l.length : Int) := by omega
    have hRr := fun w (g : Sr Z W b w r n tb) => h.sr g
    replace hnum := Lib.hid hnum
    replace hlen1 := Lib.hid hlen1
    replace hm1 := Lib.hid hm1
    have hname := fun w mp sv l' (h : Tab w tb mp sv l') => nameC w tb mp sv l' (u : Int) h
    by_cases hA : l.length < u
    · rw [show nmq m l = .error 73 by simp [nmq, hr, hA]]
      have hAI : (l.length : Int) < (u : Int) := by omega
      clear hr hA hname
      go_enter Tryz.func27, Tryz.ntmps27
      go_wp2_with fail
      go_region_with (first
        | (go_at_call 25; refine (hnum.out _ (Gr.drew W _)).mono ?_; rintro e w1 ⟨rfl, hs1, hu1⟩; have G1 : Sr Z W b w1 r n tb := Sr.pre (Gr.drew W _) hs1; obtain ⟨lv1, hB1, hq1, hz1⟩ := G1.1; obtain ⟨d0, d1, d2, e0, e1⟩ := three46 hB1)
        | (go_at_call 50; refine (hlen1.out w1 G1.2).mono ?_; rintro e w2 ⟨rfl, rfl⟩)
        | (go_at_call 50; refine (hlen1.out _ (Gr.drew W _)).mono ?_; rintro e w2 ⟨rfl, rfl⟩)
        | fail)
      all_goals
        go_wp2_with fail
        exact ⟨rfl, rfl, hm1.out _ G1.2⟩
    · by_cases hBB : u = l.length
      · subst hBB
        have hnew := fun w (h : Rt Z F w b n tb r l) => newName_c w b n tb r l h
        have hq : nmq m l = match nwq r l with | .error e => .error e | .ok (r', l') => .ok (nameS l' (l.length : Int), r', l') := by simp only [nmq, hr]; rw [if_neg hA, if_pos trivial]; cases nwq r l <;> rfl
        rw [hq]
        have hwl : IntKind.i64.wrap (l.length : Int) = (l.length : Int) := by rw [IntKind.wrap_i64]; omega
        cases hw : nwq r l with
        | error c =>
          rw [hw] at hnew
          clear hr hA hq hw hname
          go_enter Tryz.func27, Tryz.ntmps27
          go_wp2_with fail
          go_region_with (first
            | (go_at_call 25; refine (hnum.out _ (Gr.drew W _)).mono ?_; rintro e w1 ⟨rfl, hs1, hu1⟩; have G1 : Sr Z W b w1 r n tb := Sr.pre (Gr.drew W _) hs1; obtain ⟨lv1, hB1, hq1, hz1⟩ := G1.1; obtain ⟨d0, d1, d2, e0, e1⟩ := three46 hB1)
            | (go_at_call 50; refine (hlen1.out w1 G1.2).mono ?_; rintro e w2 ⟨rfl, rfl⟩)
            | (go_at_call 50; refine (hlen1.out _ (Gr.drew W _)).mono ?_; rintro e w2 ⟨rfl, rfl⟩)
            | fail)
          all_goals
            go_wp2_with fail
            refine (hnew w1 (hRr w1 G1)).mono ?_
            rintro e w3 ⟨rfl, hg3⟩
            exact ⟨rfl, rfl, (hm1.out _ G1.2).trans hg3⟩
        | ok x =>
          obtain ⟨r', l'⟩ := x
          rw [hw] at hnew
          have hfin : ∀ w1 w3, Sr Z W b w1 r n tb → Nm Z F w1 b n tb w3 r' l' → Nm Z F W b n tb w3 r' l' := fun w1 w3 g k => by
            obtain ⟨F', hR, hF'⟩ := k.at_
            exact ⟨⟨F', hR, fun i hi => (hF' i hi).imp id (fun e => Nat.le_trans g.2.size e)⟩, (g.2.mono (fun _ _ e => .inl e)).trans k.gr⟩
          replace hfin := Lib.hid hfin
          clear hr hA hq hw
          go_enter Tryz.func27, Tryz.ntmps27
          go_wp2_with fail
          go_region_with (first
            | (go_at_call 25; refine (hnum.out _ (Gr.drew W _)).mono ?_; rintro e w1 ⟨rfl, hs1, hu1⟩; have G1 : Sr Z W b w1 r n tb := Sr.pre (Gr.drew W _) hs1; obtain ⟨lv1, hB1, hq1, hz1⟩ := G1.1; obtain ⟨d0, d1, d2, e0, e1⟩ := three46 hB1)
            | (go_at_call 50; refine (hlen1.out w1 G1.2).mono ?_; rintro e w2 ⟨rfl, rfl⟩)
            | (go_at_call 50; refine (hlen1.out _ (Gr.drew W _)).mono ?_; rintro e w2 ⟨rfl, rfl⟩)
            | fail)
          all_goals
            go_wp2_with fail
            refine (hnew w1 (hRr w1 G1)).mono ?_
            rintro e w3 ⟨rfl, hN3⟩
            obtain ⟨F', hR3, hF3⟩ := hN3.at_
            obtain ⟨lv3, hB3, hq3, hz3⟩ := hR3.re
            obtain ⟨k0, k1, k2, y0, y1⟩ := three46 hB3
            obtain ⟨mp3, sv3, htab3, hFp3⟩ := hR3.tab
            go_wp2_with fail
            refine (hname w3 mp3 sv3 l' htab3).mono ?_
            rintro e w4 ⟨rfl, rfl⟩
            go_wp2_with fail
            go_ret
            exact ⟨rfl, hfin.out w1 w3 G1 hN3⟩
      · have hC : ((u : Int) == (l.length : Int)) = false := by simp; omega
        have hCI : ¬ (l.length : Int) < (u : Int) := by omega
        have hCI2 : (u : Int) < (l.length : Int) := by omega
        have hu0 : (0 : Int) ≤ (u : Int) := by omega
        rw [show nmq m l = .ok (nameS l (u : Int), r, l) by simp [nmq, hr, hA, hBB]]
        clear hr hA hBB
        go_enter Tryz.func27, Tryz.ntmps27
        go_wp2_with fail
        go_region_with (first
          | (go_at_call 25; refine (hnum.out _ (Gr.drew W _)).mono ?_; rintro e w1 ⟨rfl, hs1, hu1⟩; have G1 : Sr Z W b w1 r n tb := Sr.pre (Gr.drew W _) hs1; obtain ⟨lv1, hB1, hq1, hz1⟩ := G1.1; obtain ⟨d0, d1, d2, e0, e1⟩ := three46 hB1)
          | (go_at_call 50; refine (hlen1.out w1 G1.2).mono ?_; rintro e w2 ⟨rfl, rfl⟩)
          | (go_at_call 50; refine (hlen1.out _ (Gr.drew W _)).mono ?_; rintro e w2 ⟨rfl, rfl⟩)
          | fail)
        all_goals
          have htab1 := htab.gr G1.2 (fun i hi e => h.nb (e ▸ hF i hi))
          go_wp2_with fail
          refine (hname w1 mp sv l htab1).mono ?_
          rintro e w4 ⟨rfl, rfl⟩
          go_wp2_with fail
          go_ret
          exact ⟨rfl, Sr.nm h G1⟩
end Go.Proofs.YtmohehfkbhllpaaGreat


namespace Go.Proofs.YtmohehfkbhllpaaGreat
open Go.RowKit Go.Maps

def scopeOf : Code → Code
  | .seq _ (.scope c) => c
  | c => c
/-- What stands behind a label of whole. -/
def Lab (l : Nat) (c : Code) : Prop := findLabel (scopeOf (Tryz.f13.body.getD .skip)) l = some c

/-! ### What bytes are -/
/-- So many elements, each read by p, behind some. -/
def elq (p : List Int → Nat → List ByteArray → Except Int (Tm × List Int × Nat × List ByteArray)) : Nat → List Int → Nat → List ByteArray → List Tm → Except Int (List Tm × List Int × Nat × List ByteArray)
  | 0, m, n, l, acc => .ok (acc, m, n, l)
  | u + 1, m, n, l, acc => match p m n l with
    | .error e => .error e
    | .ok (T, m', n', l') => elq p u m' n' l' (acc ++ [T])
def idOk (a c d : Int) : Bool := decide (1 ≤ a) && (decide (a ≤ 64) && (decide (1 ≤ c) && decide (1 ≤ d)))
/-- A part, behind its kind's byte; p: what reads its elements. -/
def knq (p : List Int → Nat → List ByteArray → Except Int (Tm × List Int × Nat × List ByteArray)) (k : Int) (m : List Int) (n : Nat) (l : List ByteArray) : Except Int (Tm × List Int × Nat × List ByteArray) :=
  if k = 1 then (match nmb 10 0 0 m with
    | .error e => .error e
    | .ok (u, m') => if inR (unf (u : Int)) = true then .ok (.mk { k := 1, n := unf (u : Int) } [] [], m', n, l) else .error 73)
  else if k = 2 then (if m.length < 16 then .error 72 else if (rp (be (m.take 8)) && rp (be ((m.drop 8).take 8))) = true then .ok (.mk { k := 2, x := be (m.take 8), y := be ((m.drop 8).take 8) } [] [], m.drop 16, n, l) else .error 73)
  else if k = 3 then (match nmq m l with
    | .error e => .error e
    | .ok (s, m', l') => .ok (.mk { k := 3, s := s } [] [], m', n, l'))
  else if k = 4 ∨ k = 5 then (match idq m with
    | .error e => .error e
    | .ok (c, t, u, m') => if idOk c (t : Int) (u : Int) = true then .ok (.mk { k := k, a := c, c := (t : Int), d := (u : Int) } [] [], m', n, l) else .error 73)
  else if k = 6 ∨ k = 7 then (match nmb 10 0 0 m with
    | .error e => .error e
    | .ok (u, m') => if 256 < u then .error 73 else match elq p u m' n l [] with
      | .error e => .error e
      | .ok (ts, m'', n'', l'') => .ok (.mk { k := k } [] ts, m'', n'', l''))
  else if k = 8 then (match rwq m n with
    | .error e => .error e
    | .ok (bs, m', n') => .ok (.mk { k := 8 } bs [], m', n', l))
  else .error 73
/-- A part; r: how much deeper parts may stand; n: the size so far. -/
def ptq : Nat → List Int → Nat → List ByteArray → Except Int (Tm × List Int × Nat × List ByteArray)
  | 0, _, _, _ => .error 20
  | r + 1, m, n, l => if 4096 ≤ n then .error 21 else match m with
    | [] => .error 72
    | k :: m => knq (ptq r) k m (n + 1) l
/-- A nest: its kind, how many elements it is to have, those that it has. -/
structure Ne where
  k : Int
  w : Nat
  ts : List Tm
/-- What comes of it when a part is done and these nests are open, the innermost first. -/
def fin7 : List Ne → Tm → List Int → Nat → List ByteArray → Except Int Tm
  | [], T, m, _, _ => if m = [] then .ok T else .error 74
  | e :: r, T, m, n, l => match elq (ptq (24 - (r.length + 1))) (e.w - (e.ts.length + 1)) m n l (e.ts ++ [T]) with
    | .error c => .error c
    | .ok (ts, m', n', l') => fin7 r (.mk { k := e.k } [] ts) m' n' l'
/-- What bytes are. -/
def decV (b : List Int) : Except Int Tm := if 131072 < b.length then .error 70 else match b with
  | [] => .error 72
  | c :: m => if c = 69 then (match ptq 24 m 0 [] with
    | .error e => .error e
    | .ok (T, m', n', l') => fin7 [] T m' n' l') else .error 71
end Go.Proofs.YtmohehfkbhllpaaGreat

