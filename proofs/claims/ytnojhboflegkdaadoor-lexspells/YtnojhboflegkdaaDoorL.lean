/-
  A token's text: bytes within quotes, and Spell.
-/
import Derived.Test.YtnojhboflegkdaaDoorK
import Derived.Deep.RegionHeld3
import Derived.Laws.BitsAllLaws
set_option linter.unusedVariables false
set_option linter.unusedSimpArgs false
namespace Go.Proofs.YtnojhboflegkdaaDoor
open Go.RowKit Go.Maps

def hx (v : Nat) : Nat := if v < 10 then 48 + v else 87 + v
theorem hx_all : ∀ v : Fin 16, bt d16 v = (hx v : Int) := by decide +kernel
theorem ixh (v : Nat) (h : v < 16) (w : World) : (Instr.index 9 (.string d16) (.int .u8 (v : Int))).run Tryd.prog w = .ok (.int .u8 (hx v : Int)) w := by
  rw [run_index_string w 9 d16 .u8 v (by kernel_rfl), dif_pos ⟨by omega, by exact_mod_cast h⟩]
  have := hx_all ⟨v, h⟩
  simp only [bt] at this
  rw [← this]
  have h2 : v < (d16).data.size := h
  simp only [Int.toNat_natCast, Array.getElem?_eq_getElem h2, Option.getD_some]
  rfl
/-- A byte's text within quotes. -/
def qb (c : Int) : List Int :=
  if c = 10 then [92, 110] else if c = 9 then [92, 116] else if c = 92 then [92, 92] else if c = 34 then [92, 34]
  else if shw c = true then [c] else [92, 120, (hx (c.toNat / 16) : Int), (hx (c.toNat % 16) : Int)]
def qbs (l : List Int) : List Int := l.flatMap qb
/-- Bytes' text. -/
def quo (l : List Int) : List Int := 34 :: (qbs l ++ [34])
theorem qb_len (c : Int) : (qb c).length ≤ 4 := by
  unfold qb
  repeat' split
  all_goals simp
theorem qbs_len (l : List Int) : (qbs l).length ≤ 4 * l.length := by
  induction l with
  | nil => simp [qbs]
  | cons c l ih =>
    have := qb_len c
    simp only [qbs, List.flatMap_cons, List.length_append, List.length_cons] at ih ⊢
    omega
theorem qbs_take (l : List Int) (k : Nat) (h : k < l.length) : qbs (l.take (k + 1)) = qbs (l.take k) ++ qb (l.getD k 0) := by
  have e : l.take (k + 1) = l.take k ++ [l.getD k 0] := by rw [List.take_add_one, List.getD_eq_getElem?_getD, List.getElem?_eq_getElem h]; rfl
  rw [e, qbs, List.flatMap_append, List.flatMap_singleton]; rfl

theorem exi (k : Nat) (h : k < 4) (c : Int) (hc : (match k with | 0 => 110 | 1 => 116 | 2 => 92 | _ => 34 : Int) = c) (w : World) : (Instr.index 9 (.string eIn) (.int .i64 (k : Int))).run Tryd.prog w = .ok (.int .u8 c) w := by
  rw [ix eIn k h]
  rw [← hc]
  match k, h with
  | 0, _ => rfl
  | 1, _ => rfl
  | 2, _ => rfl
  | 3, _ => rfl

set_option maxRecDepth 20000 in
set_option maxHeartbeats 2000000 in
theorem quote_c (W : World) (s : Value) (m : List Int) (hs : Sb W s m) (hm : ∀ c ∈ m, 0 ≤ c ∧ c < 256) (hlen : m.length ≤ 70000) :
    Calls Tryd.prog 24 #[s] W fun e w' => ∃ v', e = .returned v' ∧ Ob W.heap.size w' v' (quo m) ∧ Gr (fun _ => False) W w' := by
  obtain ⟨sa, sc, rfl, hcell⟩ := hs.sv
  have hmI : (m.length : Int) ≤ 70000 := by omega
  have x0 := exi 0 (by decide) 110 rfl
  have x1 := exi 1 (by decide) 116 rfl
  have x2 := exi 2 (by decide) 92 rfl
  have x3 := exi 3 (by decide) 34 rfl
  have o0 := Ob.lit W.heap.size W [34] (by simp) (Nat.le_refl _) #[.int .u8 34] rfl 1 rfl
  have g0 : Gr (fun _ => False) W (W.alloc (.cells #[.int .u8 34] 5)) := Gr.alloc _ _ _
  replace hlen := Lib.hid hlen
  replace hcell := Lib.hid hcell
  replace hs := Lib.hid hs
  go_enter Tryd.func24, Tryd.ntmps24
  go_wp2_with fail
  go_loopw [3, 10] (fun b i wr => ∃ j : Nat, j ≤ m.length ∧ i = .int .i64 (j : Int) ∧ Hid (Ob W.heap.size wr b (34 :: qbs (m.take j))) ∧ Hid (Gr (fun _ => False) W wr)) (fun _ i _ => m.length - (intOf i).toNat)
  case atStart => exact ⟨0, Nat.zero_le _, rfl, (by show Ob _ _ _ _; simpa [qbs] using o0), g0⟩
  case round =>
    obtain ⟨j, hj, rfl, Ho, hg⟩ := hrel
    clear o0 g0
    by_cases hlt : j < m.length
    · obtain ⟨b, off, rfl, hbl, hcj⟩ := hcell.out (List.ne_nil_of_length_pos (by omega))
      have hcj := hcj j hlt
      have hcw : wr.cell? ⟨b, off + j, none⟩ = some (.int .u8 (m.getD j 0)) := by
        simp only [World.cell?] at hcj ⊢
        rw [hg.out.block b hbl (fun e => e)]; exact hcj
      have hcm := hm (m.getD j 0) (by rw [List.getD_eq_getElem?_getD, List.getElem?_eq_getElem hlt]; exact List.getElem_mem hlt)
      have htk := qbs_take m j hlt
      obtain ⟨c0, hc0⟩ : ∃ c, m.getD j 0 = c := ⟨_, rfl⟩
      rw [hc0] at hcw hcm htk
      clear hc0 hcj
      obtain ⟨x, rfl⟩ := Int.eq_ofNat_of_zero_le hcm.1
      have hxl : x < 256 := by omega
      obtain ⟨L, hL⟩ : ∃ L, 34 :: qbs (m.take j) = L := ⟨_, rfl⟩
      have hlo : Hid (L.length + 4 ≤ 1000000) := by
        have := qbs_len (m.take j)
        have := hlen.out
        show _ ≤ _
        rw [← hL, List.length_cons]
        simp only [List.length_take] at *
        omega
      have hpb : Hid (∀ t : List Int, qb x = t → 34 :: qbs (m.take (j + 1)) = L ++ t) := Lib.hid (fun t e => by rw [htk, ← hL]; show 34 :: (_ ++ qb x) = _; rw [e]; rfl)
      have ho := Ho.out
      rw [hL] at ho
      have hbw : W.heap.size ≤ wr.heap.size := hg.out.size
      have hjI : (j : Int) < (m.length : Int) := by omega
      have hid := fun w => outidx_c (x : Int) hcm.1 hcm.2 w
      clear hL htk Ho hm hcm
      obtain ⟨ba, bc, rfl⟩ := ho.sv
      have fin : ∀ w1 : Value × World, Loc (.slice ba L.length bc) wr w1.1 w1.2 → Gr (fun _ => False) W w1.2 := fun w1 g => hg.out.trans' (g.far ho) (fun i hi h => by omega)
      replace fin := Lib.hid fin
      by_cases h1 : x = 10 ∨ x = 9 ∨ x = 92 ∨ x = 34
      · rcases h1 with rfl | rfl | rfl | rfl
        · go_wp2_with (first
            | (go_at_call 41; refine (hid _).mono ?_; rintro e w' ⟨rfl, rfl⟩)
            | (at_builtin; refine wpList_ap rfl _ _ rfl W.heap.size _ _ L [92, 110] rfl rfl (ho.g0 (Gr.alloc _ _ _)) (Ob.lit 0 wr [92, 110] (by simp) (Nat.zero_le _) #[.int .u8 92, .int .u8 110] rfl 2 rfl).sb (by have := hlo.out; simp; omega) (by simp; omega) ?_; intro v1 w1 o1 g1; have gg := Lib.hid (Loc.pre (Gr.alloc wr _ _) g1); replace o1 := Lib.hid o1; clear g1))
          exact ⟨⟨j + 1, by omega, by go_num, by rw [hpb.out [92, 110] (by decide)]; exact o1.out, fin.out (v1, w1) gg.out⟩, by simp [intOf]; omega⟩
        · go_wp2_with (first
            | (go_at_call 41; refine (hid _).mono ?_; rintro e w' ⟨rfl, rfl⟩)
            | (at_builtin; refine wpList_ap rfl _ _ rfl W.heap.size _ _ L [92, 116] rfl rfl (ho.g0 (Gr.alloc _ _ _)) (Ob.lit 0 wr [92, 116] (by simp) (Nat.zero_le _) #[.int .u8 92, .int .u8 116] rfl 2 rfl).sb (by have := hlo.out; simp; omega) (by simp; omega) ?_; intro v1 w1 o1 g1; have gg := Lib.hid (Loc.pre (Gr.alloc wr _ _) g1); replace o1 := Lib.hid o1; clear g1))
          exact ⟨⟨j + 1, by omega, by go_num, by rw [hpb.out [92, 116] (by decide)]; exact o1.out, fin.out (v1, w1) gg.out⟩, by simp [intOf]; omega⟩
        · go_wp2_with (first
            | (go_at_call 41; refine (hid _).mono ?_; rintro e w' ⟨rfl, rfl⟩)
            | (at_builtin; refine wpList_ap rfl _ _ rfl W.heap.size _ _ L [92, 92] rfl rfl (ho.g0 (Gr.alloc _ _ _)) (Ob.lit 0 wr [92, 92] (by simp) (Nat.zero_le _) #[.int .u8 92, .int .u8 92] rfl 2 rfl).sb (by have := hlo.out; simp; omega) (by simp; omega) ?_; intro v1 w1 o1 g1; have gg := Lib.hid (Loc.pre (Gr.alloc wr _ _) g1); replace o1 := Lib.hid o1; clear g1))
          exact ⟨⟨j + 1, by omega, by go_num, by rw [hpb.out [92, 92] (by decide)]; exact o1.out, fin.out (v1, w1) gg.out⟩, by simp [intOf]; omega⟩
        · go_wp2_with (first
            | (go_at_call 41; refine (hid _).mono ?_; rintro e w' ⟨rfl, rfl⟩)
            | (at_builtin; refine wpList_ap rfl _ _ rfl W.heap.size _ _ L [92, 34] rfl rfl (ho.g0 (Gr.alloc _ _ _)) (Ob.lit 0 wr [92, 34] (by simp) (Nat.zero_le _) #[.int .u8 92, .int .u8 34] rfl 2 rfl).sb (by have := hlo.out; simp; omega) (by simp; omega) ?_; intro v1 w1 o1 g1; have gg := Lib.hid (Loc.pre (Gr.alloc wr _ _) g1); replace o1 := Lib.hid o1; clear g1))
          exact ⟨⟨j + 1, by omega, by go_num, by rw [hpb.out [92, 34] (by decide)]; exact o1.out, fin.out (v1, w1) gg.out⟩, by simp [intOf]; omega⟩
      · have q0 : ¬ (x : Int) = 10 := by omega
        have q1 : ¬ (x : Int) = 9 := by omega
        have q2 : ¬ (x : Int) = 92 := by omega
        have q3 : ¬ (x : Int) = 34 := by omega
        rw [show esco (x : Int) = -1 by simp only [esco, q0, q1, q2, q3, if_false]] at hid
        by_cases h2 : shw (x : Int) = true
        · have hpx : qb x = [(x : Int)] := by simp only [qb, q0, q1, q2, q3, h2, if_true, if_false]
          have hsh := fun w => shown_c (x : Int) w
          rw [h2] at hsh
          replace hpx := Lib.hid hpx
          clear h1 h2 q0 q1 q2 q3
          go_wp2_with (first
            | (go_at_call 41; refine (hid _).mono ?_; rintro e w' ⟨rfl, rfl⟩)
            | (go_at_call 42; refine (hsh _).mono ?_; rintro e w' ⟨rfl, rfl⟩)
            | (at_builtin; refine wpList_ap rfl _ _ rfl W.heap.size _ _ L [(x : Int)] rfl rfl (ho.g0 (Gr.alloc _ _ _)) (Ob.lit 0 wr [(x : Int)] (by simp) (Nat.zero_le _) #[.int .u8 (x : Int)] rfl 1 rfl).sb (by have := hlo.out; simp; omega) (by simp; omega) ?_; intro v1 w1 o1 g1; have gg := Lib.hid (Loc.pre (Gr.alloc wr _ _) g1); replace o1 := Lib.hid o1; clear g1))
          exact ⟨⟨j + 1, by omega, by go_num, by rw [hpb.out [(x : Int)] hpx.out]; exact o1.out, fin.out (v1, w1) gg.out⟩, by simp [intOf]; omega⟩
        · have hpx : qb x = [92, 120, (hx (x / 16) : Int), (hx (x % 16) : Int)] := by
            rw [qb, if_neg q0, if_neg q1, if_neg q2, if_neg q3, if_neg h2]; rfl
          have hsh := fun w => shown_c (x : Int) w
          rw [Bool.eq_false_iff.2 h2] at hsh
          replace hpx := Lib.hid hpx
          have hi1 := ixh (x / 16) (by omega)
          have hi2 := ixh (x % 16) (by omega)
          have ha : bits .and .u8 (x : Int) 15 = ((x % 16 : Nat) : Int) := by rw [← nat_mask4]; exact u8_and_nat x 15 hxl (by omega)
          have hd : (x : Int) / 16 = ((x / 16 : Nat) : Int) := by omega
          generalize hx (x / 16) = y1 at *
          generalize hx (x % 16) = y2 at *
          generalize x / 16 = k1 at *
          generalize x % 16 = k2 at *
          clear h1 h2 q0 q1 q2 q3
          go_wp2_with (first
            | (go_at_call 41; refine (hid _).mono ?_; rintro e w' ⟨rfl, rfl⟩)
            | (go_at_call 42; refine (hsh _).mono ?_; rintro e w' ⟨rfl, rfl⟩))
          have hoD := ho.g0 ((Gr.alloc wr (.cells #[.int .u8 92, .int .u8 120, .int .u8 (y1 : Int), .int .u8 (y2 : Int)] 5) _).trans (Gr.drew _ _))
          have hlD := ((Ob.lit 0 wr [92, 120, (y1 : Int), (y2 : Int)] (by simp) (Nat.zero_le _) #[.int .u8 92, .int .u8 120, .int .u8 (y1 : Int), .int .u8 (y2 : Int)] rfl 4 rfl).g0 (Gr.drew _ _)).sb
          go_region_held3 (fun _ => True) (trivial) (first
            | (refine step_ap rfl _ _ rfl W.heap.size (.slice ba L.length bc) _ L [92, 120, (y1 : Int), (y2 : Int)] rfl rfl hoD hlD (by have := hlo.out; simp; omega) (by simp; omega) ?_; intro v1 w1 o1 g1; have gg := Loc.pre ((Gr.alloc wr _ _).trans (Gr.drew _ _)) g1)
            | fail)
          all_goals
            go_wp2_with fail
            exact ⟨⟨j + 1, by omega, by go_num, by rw [hpb.out _ hpx.out]; exact o1, fin.out (v1, w1) gg⟩, by simp [intOf]; omega⟩
    · obtain rfl : j = m.length := by omega
      have ho := Ho.out
      rw [List.take_length] at ho
      have hbw : W.heap.size ≤ wr.heap.size := hg.out.size
      have hq : Hid ((34 :: qbs m) ++ [34] = quo m) := by show _ = _; rfl
      have hlo : Hid ((34 :: qbs m).length + 1 ≤ 1000000) := by
        have := qbs_len m
        have := hlen.out
        show _ ≤ _
        rw [List.length_cons]
        omega
      generalize 34 :: qbs m = L at ho hq hlo
      obtain ⟨ba, bc, rfl⟩ := ho.sv
      clear Ho
      go_wp2_with (first
            | (at_builtin; refine wpList_ap rfl _ _ rfl W.heap.size _ _ L [34] rfl rfl (ho.g0 (Gr.alloc _ _ _)) (Ob.lit 0 wr [34] (by simp) (Nat.zero_le _) #[.int .u8 34] rfl 1 rfl).sb (by have := hlo.out; simp; omega) (by simp; omega) ?_; intro v1 w1 o1 g1; have gg := Lib.hid (Loc.pre (Gr.alloc wr _ _) g1); replace o1 := Lib.hid o1; clear g1))
      go_ret
      exact ⟨_, rfl, by rw [← hq.out]; exact o1.out, hg.out.trans' (gg.out.far ho) (fun i hi h => by omega)⟩
end Go.Proofs.YtnojhboflegkdaaDoor
