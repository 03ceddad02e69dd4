/-
  The reference's reader: a name that is none, or one of those that are known.
  A region that draws its order and whose last operation waits for all others: what holds of the world till then may be broken by that one. An operation that yields under it may be taken first.
  The reference's reader: a new name without a size.
  The reference's reader: a new name whose size is none.
-/
import Derived.Test.YtmohehfkbhllpaaGreatUD
import Derived.Deep.RegionHeld3
set_option linter.unusedVariables false
set_option linter.unusedSimpArgs false
namespace Go.Proofs.YtmohehfkbhllpaaGreat
open Go.RowKit Go.Maps
variable {S S' Z : Nat → Prop} {W W1 W' : World}
theorem Sx.put {N : Nat} {bv nv : Value} {i n : Nat} {c : Int} {X : World} (hN : W.heap.size ≤ N) (h : Sx W N bv nv i n c X) (bv' nv' : Value) (i' n' : Nat) (c' iv : Int) (e : iv = (i' : Int)) :
    (((((X.setCell ⟨N + 1, 0, none⟩ bv').setCell ⟨N + 1, 1, none⟩ (.int .i64 iv)).setCell ⟨N + 1, 2, none⟩ (.int .i64 (n' : Int))).setCell ⟨N + 1, 3, none⟩ nv').setCell ⟨N + 1, 4, none⟩ (.int .i64 c')).heap[N + 1]? = some (.cells #[bv', .int .i64 (i' : Int), .int .i64 (n' : Int), nv', .int .i64 c'] 51 (0, 0)) ∧
    Gr (fun _ => False) W (((((X.setCell ⟨N + 1, 0, none⟩ bv').setCell ⟨N + 1, 1, none⟩ (.int .i64 iv)).setCell ⟨N + 1, 2, none⟩ (.int .i64 (n' : Int))).setCell ⟨N + 1, 3, none⟩ nv').setCell ⟨N + 1, 4, none⟩ (.int .i64 c')) := by
  subst e
  exact ⟨set5_same h.out, h.gr.trans' (Gr.own5 X (N + 1) _ _ _ _ _) (fun i hi e => by omega)⟩
theorem nmb_er : ∀ (f k a : Nat) (m : List Int) (c : Int), nmb f k a m = .error c → (c == 0) = false
  | 0, _, _, _, _, h => by simp [nmb] at h
  | _ + 1, _, _, [], _, h => by simp [nmb] at h; subst h; rfl
  | f + 1, k, a, x :: r, c, h => by
    rw [nmb] at h
    split at h
    · cases h; rfl
    · split at h
      · cases h
      · exact nmb_er f _ _ r c h
set_option maxRecDepth 20000 in
set_option maxHeartbeats 1600000 in
theorem name_A (ba : Option Addr) (bc : Nat) (na : Option Addr) (nc : Nat) (m : List Int) (l : List ByteArray) (i n : Nat) (hi : i ≤ m.length) (hl96 : l.length < 4096) (W : World) (hq : Sq Z W (.slice ba m.length bc) m) (hs : Snap W (.slice na l.length nc) l) (c : Int) (hb : nmb 10 0 0 (m.drop i) = .error c) : Calls Tryz.prog 36 #[sv (.slice ba m.length bc) i n (.slice na l.length nc) 0] W fun e w' => (∃ (j : Nat) (s : ByteArray), e = .returned (.tuple #[sv (.slice ba m.length bc) j n (.slice na l.length nc) c, .string s])) ∧ Gr (fun _ => False) W w' := by
  have hx := Lib.hid (Sx.new W (.slice ba m.length bc) (.slice na l.length nc) i n 0)
  have Hq := Lib.hid (fun w (g : Gr (fun _ => False) W w) => hq.gr g (fun _ _ e => e))
  have Hs := Lib.hid (fun w (g : Gr (fun _ => False) W w) => hs.gr g (fun _ _ e => e))
  have hml : (m.length : Int) ≤ 9223372036854775807 := by obtain ⟨_, _, e, h1, h2, _⟩ := hq; cases e; omega
  have hml0 : (0 : Int) ≤ (m.length : Int) := by omega
  have hll : (l.length : Int) < 4096 := by omega
  have hll0 : (0 : Int) ≤ (l.length : Int) := by omega
  have hw := Lib.hid (fun w g => wide_c ba bc na l.length nc m i n hi w (Hq.out w g))
  rw [hb] at hw
  have hby := Lib.hid hq.byte
  have hc := nmb_er _ _ _ _ _ hb
  clear hq hs hl96 hi hb
  go_enter Tryz.func36, Tryz.ntmps36
  go_wp2_with fail
  generalize hW1 : World.alloc (World.alloc W _) _ = W1
  have H0 : Hid (Sx W W.heap.size (.slice ba m.length bc) (.slice na l.length nc) i n 0 W1) := Lib.hid (hW1 ▸ hx.out)
  clear hW1 hx
  refine (hw.out _ H0.out.gr).mono ?_
  rintro e w1 ⟨he, g1⟩
  have s1 := H0.out.turn g1
  obtain ⟨j, u, rfl⟩ := he
  obtain ⟨⟨p0, p1, p2, p3, p4⟩, d0, d1, d2, d3, d4⟩ := five s1.st
  obtain ⟨⟨q0, q1, q2, q3, q4⟩, f0, f1, f2, f3, f4⟩ := five s1.out
  have hl := (Array.getElem?_eq_some_iff.1 s1.st).1
  have hlo := (Array.getElem?_eq_some_iff.1 s1.out).1
  have H1 := Lib.hid (s1.setI (Nat.le_refl _) (.slice ba m.length bc) (.slice na l.length nc) j n c ((j : Nat) : Int) (by simp))
  clear s1 H0
  go_wp2_with fail
  generalize World.setCell (World.setCell (World.setCell (World.setCell (World.setCell w1 _ _) _ _) _ _) _ _) _ _ = X1 at H1 ⊢
  clear p0 p1 p2 p3 p4 d0 d1 d2 d3 d4 q0 q1 q2 q3 q4 f0 f1 f2 f3 f4 hl hlo
  refine (must_old ba m.length bc na l.length nc j n c hc _ _).mono ?_
  rintro e w2 ⟨rfl, g2⟩
  have s2 := H1.out.turn g2
  obtain ⟨⟨p0, p1, p2, p3, p4⟩, d0, d1, d2, d3, d4⟩ := five s2.st
  obtain ⟨⟨q0, q1, q2, q3, q4⟩, f0, f1, f2, f3, f4⟩ := five s2.out
  have hl := (Array.getElem?_eq_some_iff.1 s2.st).1
  have hlo := (Array.getElem?_eq_some_iff.1 s2.out).1
  have H2 := Lib.hid (s2.setI (Nat.le_refl _) (.slice ba m.length bc) (.slice na l.length nc) j n c ((j : Nat) : Int) (by simp))
  clear s2 H1
  have P5 := Lib.hid (H2.out.put (Nat.le_refl _) (.slice ba m.length bc) (.slice na l.length nc) j n c ((j : Nat) : Int) (by simp))
  go_wp2_with fail
  generalize World.setCell (World.setCell (World.setCell (World.setCell (World.setCell _ _ _) _ _) _ _) _ _) _ _ = wa at P5 ⊢
  obtain ⟨E5, G5⟩ := P5.out
  obtain ⟨⟨r0, r1, r2, r3, r4⟩, -⟩ := five E5
  exact bodyPost_ret (v := .tuple #[sv (.slice ba m.length bc) j n (.slice na l.length nc) c, .string e0]) (by simp [results, Tryz.results36, go_sem, r0, r1, r2, r3, r4]) rfl ⟨⟨_, _, rfl⟩, G5⟩
set_option maxRecDepth 20000 in
set_option maxHeartbeats 1600000 in
theorem name_B1 (ba : Option Addr) (bc : Nat) (na : Option Addr) (nc : Nat) (m : List Int) (l : List ByteArray) (i n : Nat) (hi : i ≤ m.length) (hl96 : l.length < 4096) (W : World) (hq : Sq Z W (.slice ba m.length bc) m) (hs : Snap W (.slice na l.length nc) l) (u : Nat) (rest : List Int) (hb : nmb 10 0 0 (m.drop i) = .ok (u, rest)) (hgt : l.length < u) : Calls Tryz.prog 36 #[sv (.slice ba m.length bc) i n (.slice na l.length nc) 0] W fun e w' => (∃ (j : Nat) (s : ByteArray), e = .returned (.tuple #[sv (.slice ba m.length bc) j n (.slice na l.length nc) 73, .string s])) ∧ Gr (fun _ => False) W w' := by
  have hx := Lib.hid (Sx.new W (.slice ba m.length bc) (.slice na l.length nc) i n 0)
  have Hq := Lib.hid (fun w (g : Gr (fun _ => False) W w) => hq.gr g (fun _ _ e => e))
  have Hs := Lib.hid (fun w (g : Gr (fun _ => False) W w) => hs.gr g (fun _ _ e => e))
  have hml : (m.length : Int) ≤ 9223372036854775807 := by obtain ⟨_, _, e, h1, h2, _⟩ := hq; cases e; omega
  have hml0 : (0 : Int) ≤ (m.length : Int) := by omega
  have hll : (l.length : Int) < 4096 := by omega
  have hll0 : (0 : Int) ≤ (l.length : Int) := by omega
  have hw := Lib.hid (fun w g => wide_c ba bc na l.length nc m i n hi w (Hq.out w g))
  rw [hb] at hw
  have hby := Lib.hid hq.byte
  clear hq hs hl96 hi hb
  go_enter Tryz.func36, Tryz.ntmps36
  go_wp2_with fail
  generalize hW1 : World.alloc (World.alloc W _) _ = W1
  have H0 : Hid (Sx W W.heap.size (.slice ba m.length bc) (.slice na l.length nc) i n 0 W1) := Lib.hid (hW1 ▸ hx.out)
  clear hW1 hx
  refine (hw.out _ H0.out.gr).mono ?_
  rintro e w1 ⟨he, g1⟩
  have s1 := H0.out.turn g1
  obtain ⟨j, hj, hjr, hu, rfl⟩ := he
  have Hj := Lib.hid hj
  have Hjr := Lib.hid hjr
  have hu0 : (0 : Int) ≤ (u : Int) := by omega
  have huI : (u : Int) < 18446744073709551616 := by omega
  clear hj hjr hu
  have hgI : decide (u ≤ l.length) = false := by simp; omega
  clear hgt
  obtain ⟨⟨p0, p1, p2, p3, p4⟩, d0, d1, d2, d3, d4⟩ := five s1.st
  obtain ⟨⟨q0, q1, q2, q3, q4⟩, f0, f1, f2, f3, f4⟩ := five s1.out
  have hl := (Array.getElem?_eq_some_iff.1 s1.st).1
  have hlo := (Array.getElem?_eq_some_iff.1 s1.out).1
  have H1 := Lib.hid (s1.setI (Nat.le_refl _) (.slice ba m.length bc) (.slice na l.length nc) j n 0 ((j : Nat) : Int) (by simp))
  clear s1 H0
  go_wp2_with fail
  generalize World.setCell (World.setCell (World.setCell (World.setCell (World.setCell w1 _ _) _ _) _ _) _ _) _ _ = X1 at H1 ⊢
  clear p0 p1 p2 p3 p4 d0 d1 d2 d3 d4 q0 q1 q2 q3 q4 f0 f1 f2 f3 f4 hl hlo
  refine (must_no ba m.length bc na l.length nc j n _).mono ?_
  rintro e w2 ⟨rfl, g2⟩
  have s2 := H1.out.turn g2
  obtain ⟨⟨p0, p1, p2, p3, p4⟩, d0, d1, d2, d3, d4⟩ := five s2.st
  obtain ⟨⟨q0, q1, q2, q3, q4⟩, f0, f1, f2, f3, f4⟩ := five s2.out
  have hl := (Array.getElem?_eq_some_iff.1 s2.st).1
  have hlo := (Array.getElem?_eq_some_iff.1 s2.out).1
  have H2 := Lib.hid (s2.setI (Nat.le_refl _) (.slice ba m.length bc) (.slice na l.length nc) j n 73 ((j : Nat) : Int) (by simp))
  clear s2 H1
  have P5 := Lib.hid (H2.out.put (Nat.le_refl _) (.slice ba m.length bc) (.slice na l.length nc) j n 73 ((j : Nat) : Int) (by simp))
  go_wp2_with fail
  generalize World.setCell (World.setCell (World.setCell (World.setCell (World.setCell _ _ _) _ _) _ _) _ _) _ _ = wa at P5 ⊢
  obtain ⟨E5, G5⟩ := P5.out
  obtain ⟨⟨r0, r1, r2, r3, r4⟩, -⟩ := five E5
  exact bodyPost_ret (v := .tuple #[sv (.slice ba m.length bc) j n (.slice na l.length nc) 73, .string e0]) (by simp [results, Tryz.results36, go_sem, r0, r1, r2, r3, r4]) rfl ⟨⟨_, _, rfl⟩, G5⟩
set_option maxRecDepth 20000 in
set_option maxHeartbeats 1600000 in
theorem name_B2 (ba : Option Addr) (bc : Nat) (na : Option Addr) (nc : Nat) (m : List Int) (l : List ByteArray) (i n : Nat) (hi : i ≤ m.length) (hl96 : l.length < 4096) (W : World) (hq : Sq Z W (.slice ba m.length bc) m) (hs : Snap W (.slice na l.length nc) l) (u : Nat) (rest : List Int) (hb : nmb 10 0 0 (m.drop i) = .ok (u, rest)) (hlt : u < l.length) : Calls Tryz.prog 36 #[sv (.slice ba m.length bc) i n (.slice na l.length nc) 0] W fun e w' => (∃ (j : Nat), j ≤ m.length ∧ m.drop j = rest ∧ e = .returned (.tuple #[sv (.slice ba m.length bc) j n (.slice na l.length nc) 0, .string (at_ l u)])) ∧ Gr (fun _ => False) W w' := by
  have hx := Lib.hid (Sx.new W (.slice ba m.length bc) (.slice na l.length nc) i n 0)
  have Hq := Lib.hid (fun w (g : Gr (fun _ => False) W w) => hq.gr g (fun _ _ e => e))
  have Hs := Lib.hid (fun w (g : Gr (fun _ => False) W w) => hs.gr g (fun _ _ e => e))
  have hml : (m.length : Int) ≤ 9223372036854775807 := by obtain ⟨_, _, e, h1, h2, _⟩ := hq; cases e; omega
  have hml0 : (0 : Int) ≤ (m.length : Int) := by omega
  have hll : (l.length : Int) < 4096 := by omega
  have hll0 : (0 : Int) ≤ (l.length : Int) := by omega
  have hw := Lib.hid (fun w g => wide_c ba bc na l.length nc m i n hi w (Hq.out w g))
  rw [hb] at hw
  have hby := Lib.hid hq.byte
  clear hq hs hl96 hi hb
  go_enter Tryz.func36, Tryz.ntmps36
  go_wp2_with fail
  generalize hW1 : World.alloc (World.alloc W _) _ = W1
  have H0 : Hid (Sx W W.heap.size (.slice ba m.length bc) (.slice na l.length nc) i n 0 W1) := Lib.hid (hW1 ▸ hx.out)
  clear hW1 hx
  refine (hw.out _ H0.out.gr).mono ?_
  rintro e w1 ⟨he, g1⟩
  have s1 := H0.out.turn g1
  obtain ⟨j, hj, hjr, hu, rfl⟩ := he
  have Hj := Lib.hid hj
  have Hjr := Lib.hid hjr
  have hu0 : (0 : Int) ≤ (u : Int) := by omega
  have huI : (u : Int) < 18446744073709551616 := by omega
  clear hj hjr hu
  have hle : decide (u ≤ l.length) = true := by simp; omega
  have hltb : decide (u < l.length) = true := by simp; omega
  have hltI : (u : Int) < (l.length : Int) := by omega
  have Hcell := Lib.hid (fun w g => (Hs.out w g).cell hlt)
  clear hlt
  obtain ⟨sb0, hna⟩ : ∃ g, na = some ⟨g, 0, none⟩ := by obtain ⟨g, e, _⟩ := Hcell.out _ H0.out.gr; exact ⟨g, e⟩
  subst hna
  have Hc2 : Hid (∀ w, Gr (fun _ => False) W w → w.cell? ⟨sb0, u, none⟩ = some (.string (at_ l u))) := Lib.hid (fun w g => by obtain ⟨g', e, h⟩ := Hcell.out w g; cases e; exact h)
  have hsb0 := World.block_lt_of_cell? _ _ (Hc2.out W (Gr.refl _ _))
  clear Hcell
  obtain ⟨⟨p0, p1, p2, p3, p4⟩, d0, d1, d2, d3, d4⟩ := five s1.st
  obtain ⟨⟨q0, q1, q2, q3, q4⟩, f0, f1, f2, f3, f4⟩ := five s1.out
  have hl := (Array.getElem?_eq_some_iff.1 s1.st).1
  have hlo := (Array.getElem?_eq_some_iff.1 s1.out).1
  have H1 := Lib.hid (s1.setI (Nat.le_refl _) (.slice ba m.length bc) (.slice (some ⟨sb0, 0, none⟩) l.length nc) j n 0 ((j : Nat) : Int) (by simp))
  clear s1 H0
  go_wp2_with fail
  generalize World.setCell (World.setCell (World.setCell (World.setCell (World.setCell w1 _ _) _ _) _ _) _ _) _ _ = X1 at H1 ⊢
  clear p0 p1 p2 p3 p4 d0 d1 d2 d3 d4 q0 q1 q2 q3 q4 f0 f1 f2 f3 f4 hl hlo
  refine (must_yes ba m.length bc _ l.length nc j n 0 _).mono ?_
  rintro e w2 ⟨rfl, g2⟩
  have s2 := H1.out.turn g2
  obtain ⟨⟨p0, p1, p2, p3, p4⟩, d0, d1, d2, d3, d4⟩ := five s2.st
  obtain ⟨⟨q0, q1, q2, q3, q4⟩, f0, f1, f2, f3, f4⟩ := five s2.out
  have hl := (Array.getElem?_eq_some_iff.1 s2.st).1
  have hlo := (Array.getElem?_eq_some_iff.1 s2.out).1
  have H2 := Lib.hid (s2.setI (Nat.le_refl _) (.slice ba m.length bc) (.slice (some ⟨sb0, 0, none⟩) l.length nc) j n 0 ((j : Nat) : Int) (by simp))
  clear s2 H1
  go_wp2_with fail
  generalize World.setCell (World.setCell (World.setCell (World.setCell (World.setCell w2 _ _) _ _) _ _) _ _) _ _ = X2 at H2 ⊢
  clear p0 p1 p2 p3 p4 d0 d1 d2 d3 d4 q0 q1 q2 q3 q4 f0 f1 f2 f3 f4 hl hlo
  have Hd := Lib.hid (H2.out.turn (Gr.drew _ (fun _ => False)))
  obtain ⟨⟨p0, p1, p2, p3, p4⟩, d0, d1, d2, d3, d4⟩ := five H2.out.st
  obtain ⟨⟨q0, q1, q2, q3, q4⟩, f0, f1, f2, f3, f4⟩ := five H2.out.out
  have hl := (Array.getElem?_eq_some_iff.1 H2.out.st).1
  have hlo := (Array.getElem?_eq_some_iff.1 H2.out.out).1
  have hcs := Hc2.out _ H2.out.gr
  have P5 := Lib.hid (H2.out.put (Nat.le_refl _) (.slice ba m.length bc) (.slice (some ⟨sb0, 0, none⟩) l.length nc) j n 0 ((j : Nat) : Int) (by simp))
  go_region
  all_goals
    go_wp2_with fail
    generalize World.setCell (World.setCell (World.setCell (World.setCell (World.setCell _ _ _) _ _) _ _) _ _) _ _ = wa at P5 ⊢
    obtain ⟨E5, G5⟩ := P5.out
    obtain ⟨⟨r0, r1, r2, r3, r4⟩, -⟩ := five E5
    exact bodyPost_ret (v := .tuple #[sv (.slice ba m.length bc) j n (.slice (some ⟨sb0, 0, none⟩) l.length nc) 0, .string (at_ l u)]) (by simp [results, Tryz.results36, go_sem, r0, r1, r2, r3, r4]) rfl ⟨⟨j, Hj.out, Hjr.out, rfl⟩, G5.trans (Gr.drew _ _)⟩
end Go.Proofs.YtmohehfkbhllpaaGreat

namespace Go.Proofs.YtmohehfkbhllpaaGreat
open Go.RowKit Go.Maps
section
variable {P : Program} {ops : Array Oper} {Q : Exit → Act → World → Prop} {md : Region.Mode} {T : World → Prop} {L : Nat}
/-- Whatever order comes; T holds behind each operation but number L. -/
def wpAnyL (P : Program) (md : Region.Mode) (ops : Array Oper) (Q : Exit → Act → World → Prop) (T : World → Prop) (L : Nat) : Nat → Array Bool → Act → World → Prop
  | 0, listed, a, w => Region.ready md ops listed = [] ∧ Q .normal a w
  | f + 1, listed, a, w => (Region.ready md ops listed = [] → Q .normal a w) ∧ ∀ i ∈ Region.ready md ops listed, wpOp P ops Q i (fun a' w' => (i ≠ L → T w') ∧ wpAnyL P md ops Q T L f (listed.setIfInBounds i true) a' w') a w
theorem wpAny_of_L : ∀ (f : Nat) (listed : Array Bool) (a : Act) (w : World), wpAnyL P md ops Q T L f listed a w → wpAny P md ops Q f listed a w
  | 0, _, _, _, h => h
  | f + 1, _, _, _, h => ⟨h.1, fun i hi => wpOp_mono (fun a' w' h' => wpAny_of_L f _ a' w' h'.2) (h.2 i hi)⟩
/-- Does number L wait for number i? -/
def waitsFor (md : Region.Mode) (ops : Array Oper) (L i : Nat) : Bool := ((ops[L]?).map (·.after.any fun e => Region.binds md e && e.on == i)).getD false
theorem waits_ready {i : Nat} (hL : waitsFor md ops L i = true) {listed : Array Bool} (h : L ∈ Region.ready md ops listed) : listed.getD i false = true := by
  obtain ⟨_, o, ho, hall⟩ := mem_ready.1 h
  unfold waitsFor at hL
  rw [ho] at hL
  simp only [Option.map_some, Option.getD_some, Array.any_eq_true, Bool.and_eq_true, beq_iff_eq] at hL
  obtain ⟨x, hx, hb, he⟩ := hL
  rw [← he]
  exact hall _ (Array.getElem_mem hx) hb
theorem wpAnyL_take' {i : Nat} {oi : Oper} {v : Value} (hi : ops[i]? = some oi) (hsel : ∀ (j : Nat) (o : Oper) cs b, ops[j]? = some o → o.op ≠ .select cs b)
    (hQ : ∀ c a w, Q (.panic c) (a.put oi.dst v) w → Q (.panic c) a w) (hL : waitsFor md ops L i = true) (hiL : i ≠ L) :
    ∀ (f : Nat) (listed : Array Bool) (a : Act) (w : World),
      (∀ j oj, ops[j]? = some oj → j ≠ i → listed.getD j true = false → (∀ e ∈ oj.after, Region.binds md e = true → e.on ≠ i) → oi.apart ops oj = true) →
      i ∈ Region.ready md ops listed → YieldsIf P ops T oi v a → T w →
      wpAnyL P md ops Q T L f (listed.setIfInBounds i true) (a.put oi.dst v) w → wpAnyL P md ops Q T L (f + 1) listed a w := by
  intro f
  induction f with
  | zero =>
    intro listed a w _ hr hy hT H
    refine ⟨fun h => (by rw [h] at hr; cases hr), fun j hj => ?_⟩
    by_cases hji : j = i
    · subst hji; exact hy.wpOp hi hT ⟨fun _ => hT, H⟩
    · have := ready_mono hj hji
      rw [H.1] at this
      cases this
  | succ f ih =>
    intro listed a w hfree hr hy hT H
    refine ⟨fun h => (by rw [h] at hr; cases hr), fun j hj => ?_⟩
    by_cases hji : j = i
    · subst hji; exact hy.wpOp hi hT ⟨fun _ => hT, H⟩
    · have hun := (mem_ready.1 hr).1
      have hno : ∀ {b : Bool}, listed.getD i b = true → b = false → False := fun h hb => by
        subst hb
        rcases Nat.lt_or_ge i listed.size with h' | h'
        · simp [h'] at h hun; rw [hun] at h; cases h
        · simp [Array.getElem?_eq_none h'] at h
      have hjL : j ≠ L := fun e => hno (waits_ready hL (e ▸ hj)) rfl
      obtain ⟨hjun, oj, hoj, hall⟩ := mem_ready.1 hj
      have hnot : ∀ e ∈ oj.after, Region.binds md e = true → e.on ≠ i := fun e he hb heq => hno (heq ▸ hall e he hb) rfl
      have h2 := wpOp_putIf hoj (hfree j oj hoj hji hjun hnot) (fun cs b => hsel i oi cs b hi) (fun cs b => hsel j oj cs b hoj) hQ hy (H.2 j (ready_mono hj hji))
      refine wpOp_mono (fun a' w' h3 => ⟨h3.2.1, ih (listed.setIfInBounds j true) a' w' (fun k ok hk hki hun' hno' => hfree k ok hk hki ?_ hno') (ready_mono hr (Ne.symm hji)) h3.1 (h3.2.1 hjL) ?_⟩) h2
      · by_cases hjk : j = k
        · subst hjk; exact hjun
        · rw [getD_set_ne true hjk] at hun'; exact hun'
      · rw [Array.setIfInBounds_comm _ _ hji]
        exact h3.2.2
theorem wpAnyL_take {i : Nat} {oi : Oper} {v : Value} {f : Nat} {listed : Array Bool} {a : Act} {w : World} (hi : ops[i]? = some oi) (hs : Region.noSelect ops = true) (hf : Region.free md ops listed i = true) (hr : (Region.ready md ops listed).contains i = true) (hL : waitsFor md ops L i = true) (hiL : i ≠ L)
    (hQ : ∀ c a w, Q (.panic c) (a.put oi.dst v) w → Q (.panic c) a w) (hy : YieldsIf P ops T oi v a) (hT : T w) (h : wpAnyL P md ops Q T L f (listed.setIfInBounds i true) (a.put oi.dst v) w) : wpAnyL P md ops Q T L (f + 1) listed a w :=
  wpAnyL_take' hi (Region.noSelect_spec hs) hQ hL hiL f listed a w (Region.free_spec hi hf) (by simpa using hr) hy hT h
theorem wpAnyL_at {i : Nat} {oi : Oper} {v : Value} (d : Option Tmp) {f : Nat} {listed : Array Bool} {a : Act} {w : World} (hi : ops[i]? = some oi) (hd : oi.dst = d) (hs : Region.noSelect ops = true) (hf : Region.free md ops listed i = true) (hr : (Region.ready md ops listed).contains i = true) (hL : waitsFor md ops L i = true) (hiL : i ≠ L)
    (hQ : ∀ c a w, Q (.panic c) (a.put d v) w → Q (.panic c) a w) (hy : YieldsIf P ops T oi v a) (hT : T w) (h : wpAnyL P md ops Q T L f (listed.setIfInBounds i true) (a.put d v) w) : wpAnyL P md ops Q T L (f + 1) listed a w := by
  subst hd; exact wpAnyL_take hi hs hf hr hL hiL hQ hy hT h
theorem wpAnyL_one {i : Nat} {o : Oper} {f : Nat} {listed : Array Bool} {a : Act} {w : World} (hr : Region.ready md ops listed = [i]) (ho : ops[i]? = some o)
    (h : ∀ K' : Act → World → Prop, Shut (∀ a w, (i ≠ L → T w) → wpAnyL P md ops Q T L f (listed.setIfInBounds i true) a w → K' a w) → if Region.wanted o (yielded ops a.tmps) = true then Oper.wp P o a w K' Q else K' (a.put o.dst undef) w) : wpAnyL P md ops Q T L (f + 1) listed a w := by
  refine ⟨fun h0 => (by rw [hr] at h0; cases h0), fun j hj => ?_⟩
  rw [hr, List.mem_singleton] at hj
  subst hj
  exact wpOp_step ho (fun K' hK => h K' (fun a w h1 h2 => hK a w ⟨h1, h2⟩))
theorem wpAnyL_done {listed : Array Bool} {a : Act} {w : World} (hr : Region.ready md ops listed = []) (h : Q .normal a w) : ∀ f, wpAnyL P md ops Q T L f listed a w
  | 0 => ⟨hr, h⟩
  | _ + 1 => ⟨fun _ => h, by rw [hr]; simp⟩
theorem wp_region_L {id : Nat} {a : Act} {w : World} (hm : P.follows .mixedOrders = true) (h : wpAnyL P .any ops (NoPanic Q) T L ops.size (Array.replicate ops.size false) a w.drew) : (Code.region id ops true).wp P Q a w :=
  wp_region_noPanic (wp_region_any hm (wpAny_of_L _ _ _ _ h))
end
end Go.Proofs.YtmohehfkbhllpaaGreat

namespace Go.Proofs.YtmohehfkbhllpaaGreat
open Go.RowKit Go.Maps
variable {S S' Z : Nat → Prop} {W W1 W' : World}
/-- A state in its block, cell by cell. -/
abbrev S11 (N : Nat) (v0 v1 v2 v3 v4 : Value) (w' : World) : Prop :=
  w'.cell? ⟨N, 0, none⟩ = some v0 ∧ w'.cell? ⟨N, 1, none⟩ = some v1 ∧ w'.cell? ⟨N, 2, none⟩ = some v2 ∧ w'.cell? ⟨N, 3, none⟩ = some v3 ∧ w'.cell? ⟨N, 4, none⟩ = some v4
theorem s11_of {N : Nat} {bv nv : Value} {i n : Nat} {c : Int} {X : World} (h : Sx W N bv nv i n c X) : S11 N bv (.int .i64 (i : Int)) (.int .i64 (n : Int)) nv (.int .i64 c) X := by
  obtain ⟨⟨p0, p1, p2, p3, p4⟩, -⟩ := five h.st
  exact ⟨p0, p1, p2, p3, p4⟩
theorem s11_at {N : Nat} {bv nv : Value} {i n : Nat} {c iv : Int} {X : World} (h : Sx W N bv nv i n c X) (e : iv = (i : Int)) : S11 N bv (.int .i64 iv) (.int .i64 (n : Int)) nv (.int .i64 c) X := e ▸ s11_of h
set_option maxRecDepth 20000 in
set_option maxHeartbeats 1600000 in
theorem name_C1 (ba : Option Addr) (bc : Nat) (na : Option Addr) (nc : Nat) (m : List Int) (l : List ByteArray) (i n : Nat) (hi : i ≤ m.length) (hl96 : l.length < 4096) (W : World) (hq : Sq Z W (.slice ba m.length bc) m) (hs : Snap W (.slice na l.length nc) l) (hb : nmb 10 0 0 (m.drop i) = .ok (l.length, [])) : Calls Tryz.prog 36 #[sv (.slice ba m.length bc) i n (.slice na l.length nc) 0] W fun e w' => (∃ (j : Nat) (s : ByteArray), e = .returned (.tuple #[sv (.slice ba m.length bc) j n (.slice na l.length nc) 72, .string s])) ∧ Gr (fun _ => False) W w' := by
  have hx := Lib.hid (Sx.new W (.slice ba m.length bc) (.slice na l.length nc) i n 0)
  have Hq := Lib.hid (fun w (g : Gr (fun _ => False) W w) => hq.gr g (fun _ _ e => e))
  have Hs := Lib.hid (fun w (g : Gr (fun _ => False) W w) => hs.gr g (fun _ _ e => e))
  have hml : (m.length : Int) ≤ 9223372036854775807 := by obtain ⟨_, _, e, h1, h2, _⟩ := hq; cases e; omega
  have hml0 : (0 : Int) ≤ (m.length : Int) := by omega
  have hll : (l.length : Int) < 4096 := by omega
  have hll0 : (0 : Int) ≤ (l.length : Int) := by omega
  have hw := Lib.hid (fun w g => wide_c ba bc na l.length nc m i n hi w (Hq.out w g))
  rw [hb] at hw
  have hby := Lib.hid hq.byte
  clear hq hs hl96 hi hb
  go_enter Tryz.func36, Tryz.ntmps36
  go_wp2_with fail
  generalize hW1 : World.alloc (World.alloc W _) _ = W1
  have H0 : Hid (Sx W W.heap.size (.slice ba m.length bc) (.slice na l.length nc) i n 0 W1) := Lib.hid (hW1 ▸ hx.out)
  clear hW1 hx
  refine (hw.out _ H0.out.gr).mono ?_
  rintro e w1 ⟨he, g1⟩
  have s1 := H0.out.turn g1
  obtain ⟨j, hj, hjr, hu, rfl⟩ := he
  have Hj := Lib.hid hj
  have Hjr := Lib.hid hjr
  have hu0 : (0 : Int) ≤ (l.length : Int) := by omega
  have huI : (l.length : Int) < 18446744073709551616 := by omega
  clear hj hjr hu
  have hle : decide (l.length ≤ l.length) = true := by simp
  have hltb : decide (l.length < l.length) = false := by simp
  obtain rfl : j = m.length := by have h1 := Hj.out; have h2 := congrArg List.length Hjr.out; simp at h2; omega
  have hcv : ∀ w : World, (convert 22 9 (.slice none 0 0)).run Tryz.prog w = .ok (.string (sb [])) w := fun w => conv_sb (.inl ⟨0, rfl, rfl⟩ : Sb w (.slice none 0 0) [])
  have hnm : isName (sb []) = false := by decide
  have hN := Lib.hid (fun w => show Calls Tryz.prog 59 #[.string (sb [])] w fun e w' => e = .returned (.bool false) ∧ w = w' by have h := refName_c (sb []) w; rw [hnm] at h; exact h)
  clear hnm
  obtain ⟨⟨p0, p1, p2, p3, p4⟩, d0, d1, d2, d3, d4⟩ := five s1.st
  obtain ⟨⟨q0, q1, q2, q3, q4⟩, f0, f1, f2, f3, f4⟩ := five s1.out
  have hl := (Array.getElem?_eq_some_iff.1 s1.st).1
  have hlo := (Array.getElem?_eq_some_iff.1 s1.out).1
  have H1 := Lib.hid (s1.setI (Nat.le_refl _) (.slice ba m.length bc) (.slice na l.length nc) m.length n 0 ((m.length : Nat) : Int) (by simp))
  clear s1 H0
  go_wp2_with fail
  generalize World.setCell (World.setCell (World.setCell (World.setCell (World.setCell w1 _ _) _ _) _ _) _ _) _ _ = X1 at H1 ⊢
  clear p0 p1 p2 p3 p4 d0 d1 d2 d3 d4 q0 q1 q2 q3 q4 f0 f1 f2 f3 f4 hl hlo
  refine (must_yes ba m.length bc na l.length nc m.length n 0 _).mono ?_
  rintro e w2 ⟨rfl, g2⟩
  have s2 := H1.out.turn g2
  obtain ⟨⟨p0, p1, p2, p3, p4⟩, d0, d1, d2, d3, d4⟩ := five s2.st
  obtain ⟨⟨q0, q1, q2, q3, q4⟩, f0, f1, f2, f3, f4⟩ := five s2.out
  have hl := (Array.getElem?_eq_some_iff.1 s2.st).1
  have hlo := (Array.getElem?_eq_some_iff.1 s2.out).1
  have H2 := Lib.hid (s2.setI (Nat.le_refl _) (.slice ba m.length bc) (.slice na l.length nc) m.length n 0 ((m.length : Nat) : Int) (by simp))
  clear s2 H1
  go_wp2_with fail
  generalize World.setCell (World.setCell (World.setCell (World.setCell (World.setCell w2 _ _) _ _) _ _) _ _) _ _ = X2 at H2 ⊢
  clear p0 p1 p2 p3 p4 d0 d1 d2 d3 d4 q0 q1 q2 q3 q4 f0 f1 f2 f3 f4 hl hlo
  refine (rone_no ba bc na l.length nc n m.length _).mono ?_
  rintro e w3 ⟨rfl, g3⟩
  have s3 := H2.out.turn g3
  obtain ⟨⟨p0, p1, p2, p3, p4⟩, d0, d1, d2, d3, d4⟩ := five s3.st
  obtain ⟨⟨q0, q1, q2, q3, q4⟩, f0, f1, f2, f3, f4⟩ := five s3.out
  have hl := (Array.getElem?_eq_some_iff.1 s3.st).1
  have hlo := (Array.getElem?_eq_some_iff.1 s3.out).1
  have H3 := Lib.hid (s3.setI (Nat.le_refl _) (.slice ba m.length bc) (.slice na l.length nc) m.length n 72 ((m.length : Nat) : Int) (by simp))
  clear s3 H2
  go_wp2_with fail
  generalize World.setCell (World.setCell (World.setCell (World.setCell (World.setCell w3 _ _) _ _) _ _) _ _) _ _ = X3 at H3 ⊢
  clear p0 p1 p2 p3 p4 d0 d1 d2 d3 d4 q0 q1 q2 q3 q4 f0 f1 f2 f3 f4 hl hlo
  refine (must_old ba m.length bc na l.length nc m.length n 72 (by decide) _ _).mono ?_
  rintro e w4 ⟨rfl, g4⟩
  have s4 := H3.out.turn g4
  obtain ⟨⟨p0, p1, p2, p3, p4⟩, d0, d1, d2, d3, d4⟩ := five s4.st
  obtain ⟨⟨q0, q1, q2, q3, q4⟩, f0, f1, f2, f3, f4⟩ := five s4.out
  have hl := (Array.getElem?_eq_some_iff.1 s4.st).1
  have hlo := (Array.getElem?_eq_some_iff.1 s4.out).1
  have H4 := Lib.hid (s4.setI (Nat.le_refl _) (.slice ba m.length bc) (.slice na l.length nc) m.length n 72 ((m.length : Nat) : Int) (by simp))
  clear s4 H3
  go_wp2_with fail
  generalize World.setCell (World.setCell (World.setCell (World.setCell (World.setCell w4 _ _) _ _) _ _) _ _) _ _ = X4 at H4 ⊢
  clear p0 p1 p2 p3 p4 d0 d1 d2 d3 d4 q0 q1 q2 q3 q4 f0 f1 f2 f3 f4 hl hlo
  refine (some_old ba m.length bc na l.length nc m.length n 72 _ (by decide) _).mono ?_
  rintro e w5 ⟨rfl, g5⟩
  have s5 := H4.out.turn g5
  obtain ⟨⟨p0, p1, p2, p3, p4⟩, d0, d1, d2, d3, d4⟩ := five s5.st
  obtain ⟨⟨q0, q1, q2, q3, q4⟩, f0, f1, f2, f3, f4⟩ := five s5.out
  have hl := (Array.getElem?_eq_some_iff.1 s5.st).1
  have hlo := (Array.getElem?_eq_some_iff.1 s5.out).1
  have H5 := Lib.hid (s5.setI (Nat.le_refl _) (.slice ba m.length bc) (.slice na l.length nc) m.length n 72 ((m.length : Nat) : Int) (by simp))
  clear s5 H4
  go_wp2_with fail
  generalize World.setCell (World.setCell (World.setCell (World.setCell (World.setCell w5 _ _) _ _) _ _) _ _) _ _ = X5 at H5 ⊢
  clear p0 p1 p2 p3 p4 d0 d1 d2 d3 d4 q0 q1 q2 q3 q4 f0 f1 f2 f3 f4 hl hlo
  have Hd := Lib.hid (H5.out.turn (Gr.drew _ (fun _ => False)))
  obtain ⟨⟨p0, p1, p2, p3, p4⟩, d0, d1, d2, d3, d4⟩ := five H5.out.st
  obtain ⟨⟨q0, q1, q2, q3, q4⟩, f0, f1, f2, f3, f4⟩ := five H5.out.out
  have hl := (Array.getElem?_eq_some_iff.1 H5.out.st).1
  have hlo := (Array.getElem?_eq_some_iff.1 H5.out.out).1
  have s11 : S11 W.heap.size (.slice ba m.length bc) (.int .i64 ((m.length : Nat) : Int)) (.int .i64 (n : Int)) (.slice na l.length nc) (.int .i64 72) X5.drew := s11_at Hd.out (by simp)
  refine wp_region_L (L := 14) (T := S11 W.heap.size (.slice ba m.length bc) (.int .i64 ((m.length : Nat) : Int)) (.int .i64 (n : Int)) (.slice na l.length nc) (.int .i64 72)) (by kernel_rfl) ?_
  refine wpAnyL_at (i := 0) (v := sv (.slice ba m.length bc) m.length n (.slice na l.length nc) 72) (some 59) rfl rfl (by kernel_rfl) (by kernel_rfl) (by kernel_rfl) (by kernel_rfl) (by decide) (fun _ _ _ h => h) (Or.inl ⟨by rfl, ?_⟩) s11 ?_
  · intro w hSw
    go_simp
  try simp only [Act.put, List.setIfInBounds_toArray, List.set_cons_zero, List.set_cons_succ]
  refine wpAnyL_at (i := 1) (v := .string (sb [])) (some 60) rfl rfl (by kernel_rfl) (by kernel_rfl) (by kernel_rfl) (by kernel_rfl) (by decide) (fun _ _ _ h => h) (Or.inl ⟨by rfl, ?_⟩) s11 ?_
  · intro w hSw
    go_simp
  try simp only [Act.put, List.setIfInBounds_toArray, List.set_cons_zero, List.set_cons_succ]
  refine wpAnyL_one (i := 2) (by kernel_rfl) rfl (fun K hK => ?_)
  go_simp
  refine (hN.out _).mono ?_
  rintro e wn ⟨rfl, rfl⟩
  refine hK.out _ _ (fun _ => s11) ?_
  clear hK K
  try simp only [Act.put, List.setIfInBounds_toArray, List.set_cons_zero, List.set_cons_succ]
  refine wpAnyL_at (i := 3) (v := .bool false) (some 62) rfl rfl (by kernel_rfl) (by kernel_rfl) (by kernel_rfl) (by kernel_rfl) (by decide) (fun _ _ _ h => h) (Or.inl ⟨by rfl, ?_⟩) s11 ?_
  · intro w hSw
    go_simp
  try simp only [Act.put, List.setIfInBounds_toArray, List.set_cons_zero, List.set_cons_succ]
  refine wpAnyL_at (i := 4) (v := undef) (some 63) rfl rfl (by kernel_rfl) (by kernel_rfl) (by kernel_rfl) (by kernel_rfl) (by decide) (fun _ _ _ h => h) (Or.inr ⟨by rfl, rfl⟩) s11 ?_
  try simp only [Act.put, List.setIfInBounds_toArray, List.set_cons_zero, List.set_cons_succ]
  refine wpAnyL_at (i := 5) (v := undef) (some 64) rfl rfl (by kernel_rfl) (by kernel_rfl) (by kernel_rfl) (by kernel_rfl) (by decide) (fun _ _ _ h => h) (Or.inr ⟨by rfl, rfl⟩) s11 ?_
  try simp only [Act.put, List.setIfInBounds_toArray, List.set_cons_zero, List.set_cons_succ]
  refine wpAnyL_at (i := 6) (v := undef) (some 65) rfl rfl (by kernel_rfl) (by kernel_rfl) (by kernel_rfl) (by kernel_rfl) (by decide) (fun _ _ _ h => h) (Or.inr ⟨by rfl, rfl⟩) s11 ?_
  try simp only [Act.put, List.setIfInBounds_toArray, List.set_cons_zero, List.set_cons_succ]
  refine wpAnyL_at (i := 7) (v := undef) (some 66) rfl rfl (by kernel_rfl) (by kernel_rfl) (by kernel_rfl) (by kernel_rfl) (by decide) (fun _ _ _ h => h) (Or.inr ⟨by rfl, rfl⟩) s11 ?_
  try simp only [Act.put, List.setIfInBounds_toArray, List.set_cons_zero, List.set_cons_succ]
  refine wpAnyL_at (i := 8) (v := undef) (some 67) rfl rfl (by kernel_rfl) (by kernel_rfl) (by kernel_rfl) (by kernel_rfl) (by decide) (fun _ _ _ h => h) (Or.inr ⟨by rfl, rfl⟩) s11 ?_
  try simp only [Act.put, List.setIfInBounds_toArray, List.set_cons_zero, List.set_cons_succ]
  refine wpAnyL_at (i := 9) (v := undef) (some 68) rfl rfl (by kernel_rfl) (by kernel_rfl) (by kernel_rfl) (by kernel_rfl) (by decide) (fun _ _ _ h => h) (Or.inr ⟨by rfl, rfl⟩) s11 ?_
  try simp only [Act.put, List.setIfInBounds_toArray, List.set_cons_zero, List.set_cons_succ]
  refine wpAnyL_at (i := 10) (v := undef) (some 69) rfl rfl (by kernel_rfl) (by kernel_rfl) (by kernel_rfl) (by kernel_rfl) (by decide) (fun _ _ _ h => h) (Or.inr ⟨by rfl, rfl⟩) s11 ?_
  try simp only [Act.put, List.setIfInBounds_toArray, List.set_cons_zero, List.set_cons_succ]
  refine wpAnyL_at (i := 11) (v := undef) (some 70) rfl rfl (by kernel_rfl) (by kernel_rfl) (by kernel_rfl) (by kernel_rfl) (by decide) (fun _ _ _ h => h) (Or.inr ⟨by rfl, rfl⟩) s11 ?_
  try simp only [Act.put, List.setIfInBounds_toArray, List.set_cons_zero, List.set_cons_succ]
  refine wpAnyL_at (i := 12) (v := .bool false) (some 71) rfl rfl (by kernel_rfl) (by kernel_rfl) (by kernel_rfl) (by kernel_rfl) (by decide) (fun _ _ _ h => h) (Or.inl ⟨by rfl, ?_⟩) s11 ?_
  · intro w hSw
    go_simp
  try simp only [Act.put, List.setIfInBounds_toArray, List.set_cons_zero, List.set_cons_succ]
  refine wpAnyL_one (i := 13) (by kernel_rfl) rfl (fun K hK => ?_)
  go_simp
  refine (must_old ba m.length bc na l.length nc m.length n 72 (by decide) _ _).mono ?_
  rintro e w6 ⟨rfl, g6⟩
  have s6 := Hd.out.turn g6
  have s12 : S11 W.heap.size (.slice ba m.length bc) (.int .i64 ((m.length : Nat) : Int)) (.int .i64 (n : Int)) (.slice na l.length nc) (.int .i64 72) w6 := s11_at s6 (by simp)
  clear p0 p1 p2 p3 p4 d0 d1 d2 d3 d4 q0 q1 q2 q3 q4 f0 f1 f2 f3 f4 hl hlo
  obtain ⟨⟨p0, p1, p2, p3, p4⟩, d0, d1, d2, d3, d4⟩ := five s6.st
  obtain ⟨⟨q0, q1, q2, q3, q4⟩, f0, f1, f2, f3, f4⟩ := five s6.out
  have hl := (Array.getElem?_eq_some_iff.1 s6.st).1
  have hlo := (Array.getElem?_eq_some_iff.1 s6.out).1
  have H6 := Lib.hid (s6.setI (Nat.le_refl _) (.slice ba m.length bc) (.slice na l.length nc) m.length n 72 ((m.length : Nat) : Int) (by simp))
  clear s6
  refine hK.out _ _ (fun _ => s12) ?_
  clear hK K
  try simp only [Act.put, List.setIfInBounds_toArray, List.set_cons_zero, List.set_cons_succ]
  refine wpAnyL_one (i := 14) (by kernel_rfl) rfl (fun K hK => ?_)
  go_simp
  refine hK.out _ _ (fun h => absurd rfl h) ?_
  clear hK K
  try simp only [Act.put, List.setIfInBounds_toArray, List.set_cons_zero, List.set_cons_succ]
  refine wpAnyL_done (by kernel_rfl) ?_ _
  refine NoPanic.normal ?_
  clear s11 s12
  have P5 := Lib.hid (H6.out.put (Nat.le_refl _) (.slice ba m.length bc) (.slice na l.length nc) m.length n 72 ((m.length : Nat) : Int) (by simp))
  go_wp2_with fail
  generalize World.setCell (World.setCell (World.setCell (World.setCell (World.setCell _ _ _) _ _) _ _) _ _) _ _ = wa at P5 ⊢
  obtain ⟨E5, G5⟩ := P5.out
  obtain ⟨⟨r0, r1, r2, r3, r4⟩, -⟩ := five E5
  exact bodyPost_ret (v := .tuple #[sv (.slice ba m.length bc) m.length n (.slice na l.length nc) 72, .string (sb [])]) (by simp [results, Tryz.results36, go_sem, r0, r1, r2, r3, r4]) rfl ⟨⟨_, _, rfl⟩, G5⟩
end Go.Proofs.YtmohehfkbhllpaaGreat

namespace Go.Proofs.YtmohehfkbhllpaaGreat
open Go.RowKit Go.Maps
variable {S S' Z : Nat → Prop} {W W1 W' : World}
set_option maxRecDepth 20000 in
set_option maxHeartbeats 1600000 in
theorem name_C2a (ba : Option Addr) (bc : Nat) (na : Option Addr) (nc : Nat) (m : List Int) (l : List ByteArray) (i n : Nat) (hi : i ≤ m.length) (hl96 : l.length < 4096) (W : World) (hq : Sq Z W (.slice ba m.length bc) m) (hs : Snap W (.slice na l.length nc) l) (x : Int) (r : List Int) (hb : nmb 10 0 0 (m.drop i) = .ok (l.length, x :: r)) (hx : x < 1 ∨ 32 < x) : Calls Tryz.prog 36 #[sv (.slice ba m.length bc) i n (.slice na l.length nc) 0] W fun e w' => (∃ (j : Nat) (s : ByteArray), e = .returned (.tuple #[sv (.slice ba m.length bc) j n (.slice na l.length nc) 73, .string s])) ∧ Gr (fun _ => False) W w' := by
  have hx := Lib.hid (Sx.new W (.slice ba m.length bc) (.slice na l.length nc) i n 0)
  have Hq := Lib.hid (fun w (g : Gr (fun _ => False) W w) => hq.gr g (fun _ _ e => e))
  have Hs := Lib.hid (fun w (g : Gr (fun _ => False) W w) => hs.gr g (fun _ _ e => e))
  have hml : (m.length : Int) ≤ 9223372036854775807 := by obtain ⟨_, _, e, h1, h2, _⟩ := hq; cases e; omega
  have hml0 : (0 : Int) ≤ (m.length : Int) := by omega
  have hll : (l.length : Int) < 4096 := by omega
  have hll0 : (0 : Int) ≤ (l.length : Int) := by omega
  have hw := Lib.hid (fun w g => wide_c ba bc na l.length nc m i n hi w (Hq.out w g))
  rw [hb] at hw
  have hby := Lib.hid hq.byte
  clear hq hs hl96 hi hb
  go_enter Tryz.func36, Tryz.ntmps36
  go_wp2_with fail
  generalize hW1 : World.alloc (World.alloc W _) _ = W1
  have H0 : Hid (Sx W W.heap.size (.slice ba m.length bc) (.slice na l.length nc) i n 0 W1) := Lib.hid (hW1 ▸ hx.out)
  clear hW1 hx
  refine (hw.out _ H0.out.gr).mono ?_
  rintro e w1 ⟨he, g1⟩
  have s1 := H0.out.turn g1
  obtain ⟨j, hj, hjr, hu, rfl⟩ := he
  have Hj := Lib.hid hj
  have Hjr := Lib.hid hjr
  have hu0 : (0 : Int) ≤ (l.length : Int) := by omega
  have huI : (l.length : Int) < 18446744073709551616 := by omega
  clear hj hjr hu
  have hle : decide (l.length ≤ l.length) = true := by simp
  have hltb : decide (l.length < l.length) = false := by simp
  have hjl : j < m.length := by have h1 := Hj.out; have h2 := congrArg List.length Hjr.out; simp at h2; omega
  have hmx : m[j]? = some x := by have h2 := congrArg (fun y => y[0]?) Hjr.out; simpa [List.getElem?_drop] using h2
  have hmr : Hid (m.drop (j + 1) = r) := Lib.hid (by have h2 := congrArg List.tail Hjr.out; simpa [List.tail_drop] using h2)
  have hbx := hby.out x (List.mem_of_getElem? hmx)
  have hj1 : Hid (j + 1 ≤ m.length) := Lib.hid hjl
  have h1j := Lib.hid (fun w g => rone_ok ba bc na l.length nc j n m x hmx w (Hq.out w g))
  clear hmx hjl
  have hcv : ∀ w : World, (convert 22 9 (.slice none 0 0)).run Tryz.prog w = .ok (.string (sb [])) w := fun w => conv_sb (.inl ⟨0, rfl, rfl⟩ : Sb w (.slice none 0 0) [])
  have hnm : isName (sb []) = false := by decide
  have hN := Lib.hid (fun w => show Calls Tryz.prog 59 #[.string (sb [])] w fun e w' => e = .returned (.bool false) ∧ w = w' by have h := refName_c (sb []) w; rw [hnm] at h; exact h)
  clear hnm
  have hx2 : (decide (1 ≤ x) && decide (x ≤ 32)) = false := by simp; omega
  rcases h1x : decide (1 ≤ x) with _ | _ <;> rcases h2x : decide (x ≤ 32) with _ | _
  all_goals try (simp [h1x, h2x] at hx2; done)
  all_goals
    clear hx hx2
    obtain ⟨⟨p0, p1, p2, p3, p4⟩, d0, d1, d2, d3, d4⟩ := five s1.st
    obtain ⟨⟨q0, q1, q2, q3, q4⟩, f0, f1, f2, f3, f4⟩ := five s1.out
    have hl := (Array.getElem?_eq_some_iff.1 s1.st).1
    have hlo := (Array.getElem?_eq_some_iff.1 s1.out).1
    have H1 := Lib.hid (s1.setI (Nat.le_refl _) (.slice ba m.length bc) (.slice na l.length nc) j n 0 ((j : Nat) : Int) (by simp))
    clear s1 H0
    go_wp2_with fail
    generalize World.setCell (World.setCell (World.setCell (World.setCell (World.setCell w1 _ _) _ _) _ _) _ _) _ _ = X1 at H1 ⊢
    clear p0 p1 p2 p3 p4 d0 d1 d2 d3 d4 q0 q1 q2 q3 q4 f0 f1 f2 f3 f4 hl hlo
    refine (must_yes ba m.length bc na l.length nc j n 0 _).mono ?_
    rintro e w2 ⟨rfl, g2⟩
    have s2 := H1.out.turn g2
    obtain ⟨⟨p0, p1, p2, p3, p4⟩, d0, d1, d2, d3, d4⟩ := five s2.st
    obtain ⟨⟨q0, q1, q2, q3, q4⟩, f0, f1, f2, f3, f4⟩ := five s2.out
    have hl := (Array.getElem?_eq_some_iff.1 s2.st).1
    have hlo := (Array.getElem?_eq_some_iff.1 s2.out).1
    have H2 := Lib.hid (s2.setI (Nat.le_refl _) (.slice ba m.length bc) (.slice na l.length nc) j n 0 ((j : Nat) : Int) (by simp))
    clear s2 H1
    go_wp2_with fail
    generalize World.setCell (World.setCell (World.setCell (World.setCell (World.setCell w2 _ _) _ _) _ _) _ _) _ _ = X2 at H2 ⊢
    clear p0 p1 p2 p3 p4 d0 d1 d2 d3 d4 q0 q1 q2 q3 q4 f0 f1 f2 f3 f4 hl hlo
    refine (h1j.out _ H2.out.gr).mono ?_
    rintro e w3 ⟨rfl, g3⟩
    have s3 := H2.out.turn g3
    obtain ⟨⟨p0, p1, p2, p3, p4⟩, d0, d1, d2, d3, d4⟩ := five s3.st
    obtain ⟨⟨q0, q1, q2, q3, q4⟩, f0, f1, f2, f3, f4⟩ := five s3.out
    have hl := (Array.getElem?_eq_some_iff.1 s3.st).1
    have hlo := (Array.getElem?_eq_some_iff.1 s3.out).1
    have H3 := Lib.hid (s3.setI (Nat.le_refl _) (.slice ba m.length bc) (.slice na l.length nc) (j + 1) n 0 ((j : Int) + 1) (by simp))
    clear s3 H2
    go_wp2_with fail
    generalize World.setCell (World.setCell (World.setCell (World.setCell (World.setCell w3 _ _) _ _) _ _) _ _) _ _ = X3 at H3 ⊢
    clear p0 p1 p2 p3 p4 d0 d1 d2 d3 d4 q0 q1 q2 q3 q4 f0 f1 f2 f3 f4 hl hlo
    refine (must_no ba m.length bc na l.length nc (j + 1) n _).mono ?_
    rintro e w4 ⟨rfl, g4⟩
    have s4 := H3.out.turn g4
    obtain ⟨⟨p0, p1, p2, p3, p4⟩, d0, d1, d2, d3, d4⟩ := five s4.st
    obtain ⟨⟨q0, q1, q2, q3, q4⟩, f0, f1, f2, f3, f4⟩ := five s4.out
    have hl := (Array.getElem?_eq_some_iff.1 s4.st).1
    have hlo := (Array.getElem?_eq_some_iff.1 s4.out).1
    have H4 := Lib.hid (s4.setI (Nat.le_refl _) (.slice ba m.length bc) (.slice na l.length nc) (j + 1) n 73 ((j : Int) + 1) (by simp))
    clear s4 H3
    go_wp2_with fail
    generalize World.setCell (World.setCell (World.setCell (World.setCell (World.setCell w4 _ _) _ _) _ _) _ _) _ _ = X4 at H4 ⊢
    clear p0 p1 p2 p3 p4 d0 d1 d2 d3 d4 q0 q1 q2 q3 q4 f0 f1 f2 f3 f4 hl hlo
    refine (some_old ba m.length bc na l.length nc (j + 1) n 73 _ (by decide) _).mono ?_
    rintro e w5 ⟨rfl, g5⟩
    have s5 := H4.out.turn g5
    obtain ⟨⟨p0, p1, p2, p3, p4⟩, d0, d1, d2, d3, d4⟩ := five s5.st
    obtain ⟨⟨q0, q1, q2, q3, q4⟩, f0, f1, f2, f3, f4⟩ := five s5.out
    have hl := (Array.getElem?_eq_some_iff.1 s5.st).1
    have hlo := (Array.getElem?_eq_some_iff.1 s5.out).1
    have H5 := Lib.hid (s5.setI (Nat.le_refl _) (.slice ba m.length bc) (.slice na l.length nc) (j + 1) n 73 ((j : Int) + 1) (by simp))
    clear s5 H4
    go_wp2_with fail
    generalize World.setCell (World.setCell (World.setCell (World.setCell (World.setCell w5 _ _) _ _) _ _) _ _) _ _ = X5 at H5 ⊢
    clear p0 p1 p2 p3 p4 d0 d1 d2 d3 d4 q0 q1 q2 q3 q4 f0 f1 f2 f3 f4 hl hlo
    have Hd := Lib.hid (H5.out.turn (Gr.drew _ (fun _ => False)))
    obtain ⟨⟨p0, p1, p2, p3, p4⟩, d0, d1, d2, d3, d4⟩ := five H5.out.st
    obtain ⟨⟨q0, q1, q2, q3, q4⟩, f0, f1, f2, f3, f4⟩ := five H5.out.out
    have hl := (Array.getElem?_eq_some_iff.1 H5.out.st).1
    have hlo := (Array.getElem?_eq_some_iff.1 H5.out.out).1
    have s11 : S11 W.heap.size (.slice ba m.length bc) (.int .i64 ((j : Int) + 1)) (.int .i64 (n : Int)) (.slice na l.length nc) (.int .i64 73) X5.drew := s11_at Hd.out (by simp)
    refine wp_region_L (L := 14) (T := S11 W.heap.size (.slice ba m.length bc) (.int .i64 ((j : Int) + 1)) (.int .i64 (n : Int)) (.slice na l.length nc) (.int .i64 73)) (by kernel_rfl) ?_
    refine wpAnyL_at (i := 0) (v := sv (.slice ba m.length bc) (j + 1) n (.slice na l.length nc) 73) (some 59) rfl rfl (by kernel_rfl) (by kernel_rfl) (by kernel_rfl) (by kernel_rfl) (by decide) (fun _ _ _ h => h) (Or.inl ⟨by rfl, ?_⟩) s11 ?_
    · intro w hSw
      go_simp
    try simp only [Act.put, List.setIfInBounds_toArray, List.set_cons_zero, List.set_cons_succ]
    refine wpAnyL_at (i := 1) (v := .string (sb [])) (some 60) rfl rfl (by kernel_rfl) (by kernel_rfl) (by kernel_rfl) (by kernel_rfl) (by decide) (fun _ _ _ h => h) (Or.inl ⟨by rfl, ?_⟩) s11 ?_
    · intro w hSw
      go_simp
    try simp only [Act.put, List.setIfInBounds_toArray, List.set_cons_zero, List.set_cons_succ]
    refine wpAnyL_one (i := 2) (by kernel_rfl) rfl (fun K hK => ?_)
    go_simp
    refine (hN.out _).mono ?_
    rintro e wn ⟨rfl, rfl⟩
    refine hK.out _ _ (fun _ => s11) ?_
    clear hK K
    try simp only [Act.put, List.setIfInBounds_toArray, List.set_cons_zero, List.set_cons_succ]
    refine wpAnyL_at (i := 3) (v := .bool false) (some 62) rfl rfl (by kernel_rfl) (by kernel_rfl) (by kernel_rfl) (by kernel_rfl) (by decide) (fun _ _ _ h => h) (Or.inl ⟨by rfl, ?_⟩) s11 ?_
    · intro w hSw
      go_simp
    try simp only [Act.put, List.setIfInBounds_toArray, List.set_cons_zero, List.set_cons_succ]
    refine wpAnyL_at (i := 4) (v := undef) (some 63) rfl rfl (by kernel_rfl) (by kernel_rfl) (by kernel_rfl) (by kernel_rfl) (by decide) (fun _ _ _ h => h) (Or.inr ⟨by rfl, rfl⟩) s11 ?_
    try simp only [Act.put, List.setIfInBounds_toArray, List.set_cons_zero, List.set_cons_succ]
    refine wpAnyL_at (i := 5) (v := undef) (some 64) rfl rfl (by kernel_rfl) (by kernel_rfl) (by kernel_rfl) (by kernel_rfl) (by decide) (fun _ _ _ h => h) (Or.inr ⟨by rfl, rfl⟩) s11 ?_
    try simp only [Act.put, List.setIfInBounds_toArray, List.set_cons_zero, List.set_cons_succ]
    refine wpAnyL_at (i := 6) (v := undef) (some 65) rfl rfl (by kernel_rfl) (by kernel_rfl) (by kernel_rfl) (by kernel_rfl) (by decide) (fun _ _ _ h => h) (Or.inr ⟨by rfl, rfl⟩) s11 ?_
    try simp only [Act.put, List.setIfInBounds_toArray, List.set_cons_zero, List.set_cons_succ]
    refine wpAnyL_at (i := 7) (v := undef) (some 66) rfl rfl (by kernel_rfl) (by kernel_rfl) (by kernel_rfl) (by kernel_rfl) (by decide) (fun _ _ _ h => h) (Or.inr ⟨by rfl, rfl⟩) s11 ?_
    try simp only [Act.put, List.setIfInBounds_toArray, List.set_cons_zero, List.set_cons_succ]
    refine wpAnyL_at (i := 8) (v := undef) (some 67) rfl rfl (by kernel_rfl) (by kernel_rfl) (by kernel_rfl) (by kernel_rfl) (by decide) (fun _ _ _ h => h) (Or.inr ⟨by rfl, rfl⟩) s11 ?_
    try simp only [Act.put, List.setIfInBounds_toArray, List.set_cons_zero, List.set_cons_succ]
    refine wpAnyL_at (i := 9) (v := undef) (some 68) rfl rfl (by kernel_rfl) (by kernel_rfl) (by kernel_rfl) (by kernel_rfl) (by decide) (fun _ _ _ h => h) (Or.inr ⟨by rfl, rfl⟩) s11 ?_
    try simp only [Act.put, List.setIfInBounds_toArray, List.set_cons_zero, List.set_cons_succ]
    refine wpAnyL_at (i := 10) (v := undef) (some 69) rfl rfl (by kernel_rfl) (by kernel_rfl) (by kernel_rfl) (by kernel_rfl) (by decide) (fun _ _ _ h => h) (Or.inr ⟨by rfl, rfl⟩) s11 ?_
    try simp only [Act.put, List.setIfInBounds_toArray, List.set_cons_zero, List.set_cons_succ]
    refine wpAnyL_at (i := 11) (v := undef) (some 70) rfl rfl (by kernel_rfl) (by kernel_rfl) (by kernel_rfl) (by kernel_rfl) (by decide) (fun _ _ _ h => h) (Or.inr ⟨by rfl, rfl⟩) s11 ?_
    try simp only [Act.put, List.setIfInBounds_toArray, List.set_cons_zero, List.set_cons_succ]
    refine wpAnyL_at (i := 12) (v := .bool false) (some 71) rfl rfl (by kernel_rfl) (by kernel_rfl) (by kernel_rfl) (by kernel_rfl) (by decide) (fun _ _ _ h => h) (Or.inl ⟨by rfl, ?_⟩) s11 ?_
    · intro w hSw
      go_simp
    try simp only [Act.put, List.setIfInBounds_toArray, List.set_cons_zero, List.set_cons_succ]
    refine wpAnyL_one (i := 13) (by kernel_rfl) rfl (fun K hK => ?_)
    go_simp
    refine (must_old ba m.length bc na l.length nc (j + 1) n 73 (by decide) _ _).mono ?_
    rintro e w6 ⟨rfl, g6⟩
    have s6 := Hd.out.turn g6
    have s12 : S11 W.heap.size (.slice ba m.length bc) (.int .i64 ((j : Int) + 1)) (.int .i64 (n : Int)) (.slice na l.length nc) (.int .i64 73) w6 := s11_at s6 (by simp)
    clear p0 p1 p2 p3 p4 d0 d1 d2 d3 d4 q0 q1 q2 q3 q4 f0 f1 f2 f3 f4 hl hlo
    obtain ⟨⟨p0, p1, p2, p3, p4⟩, d0, d1, d2, d3, d4⟩ := five s6.st
    obtain ⟨⟨q0, q1, q2, q3, q4⟩, f0, f1, f2, f3, f4⟩ := five s6.out
    have hl := (Array.getElem?_eq_some_iff.1 s6.st).1
    have hlo := (Array.getElem?_eq_some_iff.1 s6.out).1
    have H6 := Lib.hid (s6.setI (Nat.le_refl _) (.slice ba m.length bc) (.slice na l.length nc) (j + 1) n 73 ((j : Int) + 1) (by simp))
    clear s6
    refine hK.out _ _ (fun _ => s12) ?_
    clear hK K
    try simp only [Act.put, List.setIfInBounds_toArray, List.set_cons_zero, List.set_cons_succ]
    refine wpAnyL_one (i := 14) (by kernel_rfl) rfl (fun K hK => ?_)
    go_simp
    refine hK.out _ _ (fun h => absurd rfl h) ?_
    clear hK K
    try simp only [Act.put, List.setIfInBounds_toArray, List.set_cons_zero, List.set_cons_succ]
    refine wpAnyL_done (by kernel_rfl) ?_ _
    refine NoPanic.normal ?_
    clear s11 s12
    have P5 := Lib.hid (H6.out.put (Nat.le_refl _) (.slice ba m.length bc) (.slice na l.length nc) (j + 1) n 73 ((j : Int) + 1) (by simp))
    go_wp2_with fail
    generalize World.setCell (World.setCell (World.setCell (World.setCell (World.setCell _ _ _) _ _) _ _) _ _) _ _ = wa at P5 ⊢
    obtain ⟨E5, G5⟩ := P5.out
    obtain ⟨⟨r0, r1, r2, r3, r4⟩, -⟩ := five E5
    exact bodyPost_ret (v := .tuple #[sv (.slice ba m.length bc) (j + 1) n (.slice na l.length nc) 73, .string (sb [])]) (by simp [results, Tryz.results36, go_sem, r0, r1, r2, r3, r4]) rfl ⟨⟨_, _, rfl⟩, G5⟩
end Go.Proofs.YtmohehfkbhllpaaGreat
