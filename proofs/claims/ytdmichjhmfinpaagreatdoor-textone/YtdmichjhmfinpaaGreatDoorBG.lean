/-
  The texts of an int of one sign and digit, of an atom, of bytes.
-/
import Derived.Test.YtdmichjhmfinpaaGreatDoorBE
import Derived.Test.YtdmichjhmfinpaaGreatDoorB
import Derived.BigRegion
import Derived.Laws.BitsAllLaws
import Derived.Deep.RegionHeld3
set_option linter.unusedVariables false
set_option linter.unusedSimpArgs false
namespace Go.Proofs.YtdmichjhmfinpaaGreatDoor
open Go.RowKit Go.Maps
variable {S S' : Nat → Prop} {W W1 W' : World}

theorem small5_c (w : World) : Calls Tryz.prog 120 #[.int .i64 5] w fun e w' => e = .returned (.string ⟨#[53]⟩) ∧ w = w' := by
  go_enter Tryz.func120, Tryz.ntmps120
  go_wp2
  go_ret
  exact ⟨rfl, rfl⟩
set_option maxRecDepth 20000 in
set_option maxHeartbeats 400000 in
theorem appendUint5_c (W : World) (base : Nat) (v : Value) (l : List Int) (h : Ob base W v l) (hl : l.length ≤ 900000) (hb : base ≤ W.heap.size) :
    Calls Tryz.prog 101 #[v, .int .u64 5, .int .i64 10] W fun e w' => ∃ v', e = .returned v' ∧ Ob base w' v' (l ++ [53]) ∧ Loc v W v' w' := by
  obtain ⟨a, cap, rfl⟩ := h.sv
  go_enter Tryz.func101, Tryz.ntmps101
  go_wp2_with (first
    | (go_at_call 120; refine (small5_c _).mono ?_; rintro e w1 ⟨rfl, rfl⟩)
    | (at_builtin; refine wpList_aps rfl _ _ rfl base _ ⟨#[53]⟩ l rfl rfl h (by have : ByteArray.size ⟨#[53]⟩ = 1 := rfl; omega) hb ?_; intro v' w' o' g'))
  go_ret
  exact ⟨_, rfl, o', g'⟩
set_option maxRecDepth 20000 in
set_option maxHeartbeats 400000 in
theorem appendInt5_c (W : World) (base : Nat) (v : Value) (l : List Int) (h : Ob base W v l) (hl : l.length ≤ 800000) (hb : base ≤ W.heap.size) :
    Calls Tryz.prog 35 #[v, .int .i64 (-5), .int .i64 10] W fun e w' => ∃ v', e = .returned v' ∧ Ob base w' v' (l ++ [45, 53]) ∧ Loc v W v' w' := by
  have hin : ∀ W v, Ob base W v l → base ≤ W.heap.size → Calls Tryz.prog 70 #[v, .int .i64 (-5), .int .i64 10] W fun e w' => ∃ v', e = .returned v' ∧ Ob base w' v' (l ++ [45, 53]) ∧ Loc v W v' w' := by
    intro W v h hb
    obtain ⟨a, cap, rfl⟩ := h.sv
    have hlit := Ob.lit 0 W [45] (by simp) (Nat.zero_le _) #[.int .u8 45] rfl 1 rfl
    go_enter Tryz.func70, Tryz.ntmps70
    go_wp2_with (first
      | (at_builtin; refine wpList_ap rfl _ _ rfl base _ _ l [45] rfl rfl (h.g0 (Gr.alloc _ _ _)) hlit.sb (by simp; omega) (by simp; omega) ?_; intro v1 w1 o1 g1; have gg := Loc.pre (Gr.alloc W _ _) g1; have hb1 : base ≤ w1.heap.size := by have := gg.gr.size; omega)
      | (go_at_call 101; refine (appendUint5_c w1 base v1 (l ++ [45]) o1 (by simp; omega) hb1).mono ?_; rintro e w2 ⟨v2, rfl, o2, g2⟩))
    go_ret
    refine ⟨v2, rfl, ?_, gg.trans g2⟩
    rw [List.append_assoc] at o2
    exact o2
  obtain ⟨a, cap, rfl⟩ := h.sv
  go_enter Tryz.func35, Tryz.ntmps35
  go_wp2_with (first
    | (go_at_call 70; refine (hin _ _ h hb).mono ?_; rintro e w2 ⟨v2, rfl, o2, g2⟩))
  go_ret
  exact ⟨v2, rfl, o2, g2⟩
end Go.Proofs.YtdmichjhmfinpaaGreatDoor
/-
  The text of bytes.
-/
namespace Go.Proofs.YtdmichjhmfinpaaGreatDoor
open Go.RowKit Go.Maps
variable {S S' : Nat → Prop} {W W1 W' : World}

/-- The digit of a number below 16. -/
def hx (k : Nat) : Nat := if k < 10 then 48 + k else 87 + k
/-- How a byte stands within quotes. -/
def pb (c : Nat) : List Int := if c = 34 ∨ c = 92 then [92, c] else if shw (c : Int) = true then [(c : Int)] else [92, 120, hx (c / 16), hx (c % 16)]
def pbs (m : List Int) : List Int := m.flatMap fun c => pb c.toNat
abbrev dg : ByteArray := ⟨#[48, 49, 50, 51, 52, 53, 54, 55, 56, 57, 97, 98, 99, 100, 101, 102]⟩
theorem ixu (s : ByteArray) (k : Nat) (h : k < s.size) (w : World) : (Instr.index 9 (.string s) (.int .u8 (k : Int))).run Tryz.prog w = .ok (.int .u8 (bt s k)) w := by
  rw [run_index_string w 9 s .u8 k (by kernel_rfl), dif_pos ⟨by omega, by omega⟩]
  have h2 : k < s.data.size := h
  have e : s[k]? = some s[k] := ByteArray.getElem?_lt' s k h
  simp only [bt, Int.toNat_natCast, Array.getElem?_eq_getElem h2, Option.getD_some]
  rfl
theorem bt_dg : ∀ k, k < 16 → bt dg k = (hx k : Nat) := by decide
theorem ixh (k : Nat) (hk : k < 16) (w : World) : (Instr.index 9 (.string dg) (.int .u8 (k : Int))).run Tryz.prog w = .ok (.int .u8 (hx k : Nat)) w := by
  rw [ixu dg k hk w, bt_dg k hk]
theorem pb_len (c : Nat) : (pb c).length ≤ 4 := by
  unfold pb
  split
  · simp
  · split <;> simp
theorem pbs_len (m : List Int) : (pbs m).length ≤ 4 * m.length := by
  induction m with
  | nil => simp [pbs]
  | cons c m ih =>
    have := pb_len c.toNat
    simp only [pbs, List.flatMap_cons, List.length_append, List.length_cons] at *
    omega
theorem pbs_take (m : List Int) (j : Nat) (h : j < m.length) : pbs (m.take (j + 1)) = pbs (m.take j) ++ pb (m.getD j 0).toNat := by
  have e : m.take (j + 1) = m.take j ++ [m.getD j 0] := by rw [List.take_add_one, List.getD_eq_getElem?_getD, List.getElem?_eq_getElem h]; rfl
  rw [e, pbs, List.flatMap_append, List.flatMap_singleton]; rfl

set_option maxRecDepth 20000 in
set_option maxHeartbeats 1000000 in
theorem putBytes_c (A : Nat → Prop) (W : World) (base : Nat) (v s : Value) (l m : List Int) (h : Ob base W v l) (hs : RowB A W m s) (hA : ∀ k, A k → k < base) (hm : ∀ c ∈ m, 0 ≤ c ∧ c < 256) (hlen : l.length + 4 * m.length ≤ 1000000) (hb : base ≤ W.heap.size) :
    Calls Tryz.prog 39 #[v, s] W fun e w' => ∃ v', e = .returned v' ∧ Ob base w' v' (l ++ pbs m) ∧ Loc v W v' w' := by
  obtain ⟨a, cap, rfl⟩ := h.sv
  have hsv : ∃ b c, s = .slice b m.length c := by
    rcases hs with ⟨rfl, b, c, rfl⟩ | ⟨g, c, cur, rfl, _⟩
    · exact ⟨b, c, rfl⟩
    · exact ⟨_, c, rfl⟩
  obtain ⟨sb', sc, rfl⟩ := hsv
  have hmI : (m.length : Int) ≤ 1000000 := by omega
  go_enter Tryz.func39, Tryz.ntmps39
  go_wp2
  go_loopw [0, 9] (fun b i wr => ∃ j : Nat, j ≤ m.length ∧ i = .int .i64 (j : Int) ∧ Ob base wr b (l ++ pbs (m.take j)) ∧ Loc (.slice a l.length cap) W b wr) (fun _ i _ => m.length - (intOf i).toNat)
  case atStart => exact ⟨0, Nat.zero_le _, rfl, by simpa [pbs] using h, Loc.refl _ _⟩
  case round =>
    obtain ⟨j, hj, rfl, ho, hgl⟩ := hrel
    have hg := hgl.far h
    by_cases hlt : j < m.length
    · have hsw : RowB A wr m (.slice sb' m.length sc) := hs.turn (A' := A) (fun k hk hk2 => ⟨hk, hg.block k hk2 (fun e => by have := hA k hk; omega)⟩)
      rcases hsw.sb with ⟨_, _, e⟩ | ⟨ad, c', e, hcell⟩
      · rw [e] at hlt; simp at hlt
      obtain ⟨rfl, rfl⟩ : sb' = some ad ∧ sc = c' := by simp only [Value.slice.injEq, true_and] at e; exact e
      clear e
      obtain ⟨c0, hc0⟩ : ∃ c, m[j]? = some c := ⟨_, List.getElem?_eq_getElem hlt⟩
      have hcm := hm c0 (List.mem_of_getElem? hc0)
      have hcj := hcell j (.int .u8 c0) (by simp [u8s, hc0])
      have hgd : m.getD j 0 = c0 := by rw [List.getD_eq_getElem?_getD, hc0]; rfl
      have htk := pbs_take m j hlt
      rw [hgd] at htk
      obtain ⟨x, rfl⟩ := Int.eq_ofNat_of_zero_le hcm.1
      have hxl : x < 256 := by omega
      have hlo : (l ++ pbs (m.take j)).length + 4 ≤ 1000000 := by
        have := pbs_len (m.take j)
        rw [List.length_append]
        simp only [List.length_take] at this
        omega
      have hbw : base ≤ wr.heap.size := by have := hg.size; omega
      have hjI : (j : Int) < (m.length : Int) := by omega
      replace htk := Lib.hid htk
      obtain ⟨L, hL⟩ : ∃ L, l ++ pbs (m.take j) = L := ⟨_, rfl⟩
      have hpb : Hid (∀ t : List Int, pb x = t → l ++ pbs (m.take (j + 1)) = L ++ t) := Lib.hid (fun t e => by rw [htk.out, ← List.append_assoc, hL]; show L ++ pb x = _; rw [e])
      rw [hL] at ho hlo
      clear hL htk hcell hgd hc0 hcm hsw hs hm
      obtain ⟨ba, bc, rfl⟩ := ho.sv
      by_cases h1 : x = 34 ∨ x = 92
      · rcases h1 with rfl | rfl
        · go_wp2_with (first
            | (at_builtin; refine wpList_ap rfl _ _ rfl base _ _ L [92, 34] rfl rfl (ho.g0 (Gr.alloc _ _ _)) (Ob.lit 0 wr [92, 34] (by simp) (Nat.zero_le _) #[.int .u8 92, .int .u8 34] rfl 2 rfl).sb (by simp; omega) (by simp; omega) ?_; intro v1 w1 o1 g1; have gg := Loc.pre (Gr.alloc wr _ _) g1))
          exact ⟨⟨j + 1, by omega, by go_num, by rw [hpb.out [92, 34] rfl]; exact o1, hgl.trans gg⟩, by simp [intOf]; omega⟩
        · go_wp2_with (first
            | (at_builtin; refine wpList_ap rfl _ _ rfl base _ _ L [92, 92] rfl rfl (ho.g0 (Gr.alloc _ _ _)) (Ob.lit 0 wr [92, 92] (by simp) (Nat.zero_le _) #[.int .u8 92, .int .u8 92] rfl 2 rfl).sb (by simp; omega) (by simp; omega) ?_; intro v1 w1 o1 g1; have gg := Loc.pre (Gr.alloc wr _ _) g1))
          exact ⟨⟨j + 1, by omega, by go_num, by rw [hpb.out [92, 92] rfl]; exact o1, hgl.trans gg⟩, by simp [intOf]; omega⟩
      · have q1 : ((x : Int) == 34) = false := by simp; omega
        have q2 : ((x : Int) == 92) = false := by simp; omega
        by_cases h2 : shw (x : Int) = true
        · have hpx : pb x = [(x : Int)] := by simp [pb, h1, h2]
          have hsh := fun w => shown_c (x : Int) w
          rw [h2] at hsh
          replace hpx := Lib.hid hpx
          clear h1 h2
          go_wp2_with (first
            | (go_at_call 73; refine (hsh _).mono ?_; rintro e w' ⟨rfl, rfl⟩)
            | (at_builtin; refine wpList_ap rfl _ _ rfl base _ _ L [(x : Int)] rfl rfl (ho.g0 (Gr.alloc _ _ _)) (Ob.lit 0 wr [(x : Int)] (by simp) (Nat.zero_le _) #[.int .u8 (x : Int)] rfl 1 rfl).sb (by simp; omega) (by simp; omega) ?_; intro v1 w1 o1 g1; have gg := Loc.pre (Gr.alloc wr _ _) g1))
          exact ⟨⟨j + 1, by omega, by go_num, by rw [hpb.out [(x : Int)] hpx.out]; exact o1, hgl.trans gg⟩, by simp [intOf]; omega⟩
        · have hpx : pb x = [92, 120, (hx (x / 16) : Int), (hx (x % 16) : Int)] := by simp [pb, h1, h2]
          have hsh := fun w => shown_c (x : Int) w
          rw [Bool.eq_false_iff.2 h2] at hsh
          replace hpx := Lib.hid hpx
          have hi1 := ixh (x / 16) (by omega)
          have hi2 := ixh (x % 16) (by omega)
          have ha : bits .and .u8 (x : Int) 15 = ((x % 16 : Nat) : Int) := by rw [← nat_mask4]; exact u8_and_nat x 15 hxl (by omega)
          have hd : (x : Int) / 16 = ((x / 16 : Nat) : Int) := by omega
          generalize hx (x / 16) = y1 at *
          generalize hx (x % 16) = y2 at *
          generalize x / 16 = k1 at *
          generalize x % 16 = k2 at *
          clear h1 h2
          go_wp2_with (first
            | (go_at_call 73; refine (hsh _).mono ?_; rintro e w' ⟨rfl, rfl⟩))
          have hoD := ho.g0 ((Gr.alloc wr (.cells #[.int .u8 92, .int .u8 120, .int .u8 (y1 : Int), .int .u8 (y2 : Int)] 5) _).trans (Gr.drew _ _))
          have hlD := ((Ob.lit 0 wr [92, 120, (y1 : Int), (y2 : Int)] (by simp) (Nat.zero_le _) #[.int .u8 92, .int .u8 120, .int .u8 (y1 : Int), .int .u8 (y2 : Int)] rfl 4 rfl).g0 (Gr.drew _ _)).sb
          go_region_held3 (fun _ => True) (trivial) (first
            | (refine step_ap rfl _ _ rfl base (.slice ba L.length bc) _ L [92, 120, (y1 : Int), (y2 : Int)] rfl rfl hoD hlD (by simp; omega) (by simp; omega) ?_; intro v1 w1 o1 g1; have gg := Loc.pre ((Gr.alloc wr _ _).trans (Gr.drew _ _)) g1)
            | fail)
          all_goals
            go_wp2_with fail
            exact ⟨⟨j + 1, by omega, by go_num, by rw [hpb.out _ hpx.out]; exact o1, hgl.trans gg⟩, by simp [intOf]; omega⟩
    · obtain rfl : j = m.length := by omega
      rw [List.take_length] at ho
      go_wp2
      go_ret
      exact ⟨_, rfl, ho, hgl⟩
end Go.Proofs.YtdmichjhmfinpaaGreatDoor
