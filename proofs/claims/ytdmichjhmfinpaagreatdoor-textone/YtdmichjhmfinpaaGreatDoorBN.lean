/-
  Print of a tree whose parts are right and whose text is known.
-/
import Derived.Test.YtdmichjhmfinpaaGreatDoorBI
import Derived.Test.YtdmichjhmfinpaaGreatDoorBC
import Derived.Test.YtdmichjhmfinpaaGreatDoorAS
import Derived.Test.YtdmichjhmfinpaaGreatDoorBM
set_option linter.unusedVariables false
set_option linter.unusedSimpArgs false
namespace Go.Proofs.YtdmichjhmfinpaaGreatDoor
open Go.RowKit Go.Maps
variable {S S' : Nat → Prop} {W W1 W' : World}

theorem Loc.nil {W W' : World} {v' : Value} (h : Loc (.slice none 0 0) W v' W') : Gr (fun _ => False) W W' := h.gr.mono (fun i _ e => by simp [Value.ownBlock] at e)
theorem conv_ob {base : Nat} {v : Value} {l : List Int} (h : Ob base W v l) : (convert 28 9 v).run Tryz.prog W = .ok (.string (sb l)) W := conv_row (rowB_own h.row)
set_option maxRecDepth 20000 in
set_option maxHeartbeats 600000 in
theorem print_t (A : Nat → Prop) (W : World) (T : Tm) (v : Value) (n : Nat) (txt : List Int) (m : Nat) (hrep : Rep A W T v) (hA : ∀ k, A k → k < W.heap.size) (hh : hgt T < 9223372036854775000)
    (hok : okT Pw stepW T 1 0) (hgo : goT stepW T 1 0 = .ok n) (hput : PutOk T txt m) (hm : m ≤ 700000) (hl : txt.length ≤ 65536) :
    Calls Tryz.prog 9 #[v] W fun e w' => e = .returned (.tuple #[.string (sb txt), .int .i64 0]) ∧ Gr (fun _ => False) W w' := by
  have hck := fun w v (g : Gr (fun _ => False) W w) (h : Rep A w T v) => check_t A w T v n h (fun k hk => by have := hA k hk; have := g.size; omega) hh hok hgo
  have hrepg := fun w2 (g : Gr (fun _ => False) W w2) => hrep.turn (A' := A) (W' := w2) (fun k hk _ => ⟨hk, g.block k (hA k hk) (fun e => e)⟩)
  have hpt := fun w v (g : Gr (fun _ => False) W w) (h : Rep A w T v) => hput A w w.heap.size (.slice none 0 0) v [] h (fun k hk => by have := hA k hk; have := g.size; omega) (Ob.nil _ _) (by simpa using hm) (Nat.le_refl _)
  obtain ⟨tk, tn, tx, ty, ts', ta, tc, td, a1, n1, c1, a2, n2, c2, rfl⟩ := hrep.agg
  clear hok hgo hput
  have hBx : Bx (W.alloc (.cells #[.int .i64 tk, .int .i64 tn, .complex .f64 tx ty, .string ts', .int .i64 ta, .int .u32 tc, .int .u64 td, .slice a1 n1 c1, .slice a2 n2 c2] 31)) W.heap.size tk tn tx ty ts' ta tc td (.slice a1 n1 c1) (.slice a2 n2 c2) := heap_alloc_new W _
  have g0 : Gr (fun _ => False) W (W.alloc (.cells #[.int .i64 tk, .int .i64 tn, .complex .f64 tx ty, .string ts', .int .i64 ta, .int .u32 tc, .int .u64 td, .slice a1 n1 c1, .slice a2 n2 c2] 31)) := Gr.alloc _ _ _
  have hC := Lib.hid (hck _ _ g0 (hrepg _ g0))
  replace hBx := Lib.hid hBx
  have hlI : ¬ (65536 : Int) < (txt.length : Int) := by omega
  clear hl hck
  go_enter Tryz.func9, Tryz.ntmps9
  go_wp2_with fail
  refine (Hid.out hC).mono ?_
  rintro e w1 ⟨rfl, hg1⟩
  have hB1 := (hBx.out.gr hg1 (fun e => e)).facts
  have g1 := g0.trans hg1
  go_wp2_with fail
  refine (hpt _ _ g1 (hrepg _ g1)).mono ?_
  rintro e w2 ⟨b2, rfl, o2, hg2⟩
  rw [List.nil_append] at o2
  obtain ⟨xa, xc, rfl⟩ := o2.sv
  have hcv := conv_ob o2
  go_wp2_with fail
  go_ret2
  exact ⟨rfl, g1.trans hg2.nil⟩
end Go.Proofs.YtdmichjhmfinpaaGreatDoor
/-
  The chapter's examples come out: the first text.
-/
namespace Go.Proofs.YtdmichjhmfinpaaGreatDoor
open Go.RowKit Go.Maps
variable {S S' : Nat → Prop} {W W1 W' : World}

set_option maxRecDepth 20000 in
set_option maxHeartbeats 1600000 in
theorem nameMay_g (t : ByteArray) (h1 : 1 ≤ t.size) (h3 : t.size ≤ 32) (h0 : low (bt t 0) = true) (hall : ∀ j, j < t.size → inN (bt t j) = true) (a1 : Option Addr) (n1 c1 : Nat) (a2 : Option Addr) (n2 c2 : Nat) (w : World) :
    Calls Tryz.prog 50 #[ts 3 0 0 0 t 0 0 0 a1 n1 c1 a2 n2 c2] w fun e w' => e = .returned (.bool true) ∧ Gr (fun _ => False) w w' := by
  have hx : ∀ w, (Instr.index 9 (.string t) (.int .i64 0)).run Tryz.prog w = .ok (.int .u8 (bt t 0)) w := fun w => ix t 0 h1 w
  obtain ⟨c, hc⟩ : ∃ c, bt t 0 = c := ⟨_, rfl⟩
  rw [hc] at hx h0
  clear hc
  replace hall := Lib.hid hall
  have q1 : (1 : Int) ≤ (t.size : Int) := by omega
  have q2 : (t.size : Int) ≤ 32 := by omega
  go_enter Tryz.func50, Tryz.ntmps50
  go_wp2_with (first | (go_at_call 83; refine (tlower_c _ _).mono ?_; rintro e w' ⟨rfl, rfl⟩))
  have hcell := heap_alloc_new w (.cells #[.int .i64 3, .int .i64 0, .complex .f64 0 0, .string t, .int .i64 0, .int .u32 0, .int .u64 0, .slice a1 n1 c1, .slice a2 n2 c2] 31)
  go_loopw [24] (fun i wr => ∃ j : Nat, j ≤ t.size ∧ i = .int .i64 j ∧ wr = w.alloc (.cells #[.int .i64 3, .int .i64 0, .complex .f64 0 0, .string t, .int .i64 0, .int .u32 0, .int .u64 0, .slice a1 n1 c1, .slice a2 n2 c2] 31)) (fun i _ => t.size - (intOf i).toNat)
  case atStart => exact ⟨0, Nat.zero_le _, rfl, rfl⟩
  case round =>
    obtain ⟨j, hj, rfl, rfl⟩ := hrel
    by_cases hlt : j < t.size
    · have hk0 := ix t j hlt
      have hn := hall.out j hlt
      generalize bt t j = x at hk0 hn
      go_wp2_with (first | (go_at_call 84; refine (tinName_c _ _).mono ?_; rintro e w' ⟨rfl, rfl⟩))
      exact ⟨⟨j + 1, by omega, by go_num, trivial⟩, by simp [intOf]; omega⟩
    · obtain rfl : j = t.size := by omega
      go_wp2_with fail
      go_ret
      exact ⟨rfl, Gr.alloc _ _ _⟩
theorem ok_atom (t : ByteArray) (h1 : 1 ≤ t.size) (h3 : t.size ≤ 32) (h0 : low (bt t 0) = true) (hall : ∀ j, j < t.size → inN (bt t j) = true) : FaultOk (.mk { k := 3, s := t } [] []) := by
  intro A W kb g o v d z hK hrep hns hd hz
  obtain ⟨a1, c1, a2, c2, rfl⟩ := len0 hrep
  exact fault_at3 W kb g o 0 0 0 t 0 0 0 a1 0 c1 a2 0 c2 hK hns _ (fun w => withoutS_g 3 t a1 0 c1 a2 0 c2 w) (fun w => blank_g 3 a1 c1 a2 c2 w) (fun w => nameMay_g t h1 h3 h0 hall a1 0 c1 a2 0 c2 w) (by decide) d z hd hz
theorem PutOk.mono {T : Tm} {x : List Int} {n n' : Nat} (h : PutOk T x n) (hn : n ≤ n') : PutOk T x n' := fun A W base b v l h1 h2 h3 h4 h5 => h A W base b v l h1 h2 h3 (by omega) h5

abbrev okS : ByteArray := ⟨#[111, 107]⟩
abbrev T1 : Tm := .mk { k := 1, n := -5 } [] []
abbrev T2 : Tm := .mk { k := 3, s := okS } [] []
abbrev T3 : Tm := .mk { k := 8 } [1, 34] []
abbrev T0 : Tm := .mk { k := 6 } [] [T1, T2, T3]
abbrev x3 : List Int := [34] ++ pbs [1, 34] ++ [34]
theorem go0 : goT stepW T0 1 0 = .ok 6 := by simp [goT, goL, stepW, lenB]
theorem thin0 : thin T0 := by simp [thin, thinL]
theorem hgt0 : hgt T0 < 9223372036854775000 := by simp [hgt, hgtL]
theorem okm0 : okT Pm stepW T0 1 0 := by simp [okT, okL, goT, goL, stepW, Pm, lenB]
theorem okw0 : okT Pw stepW T0 1 0 := by
  have f0 : FaultOk T0 := ok_tuple _ (by decide)
  have f1 : FaultOk T1 := ok_int _ (by decide)
  have f2 : FaultOk T2 := ok_atom okS (by decide) (by decide) (by decide) (by decide)
  have f3 : FaultOk T3 := ok_bytes _
  simp [okT, okL, goT, goL, stepW, Pw, lenB, f0, f1, f2, f3]
theorem put0 : PutOk T0 ([123] ++ etx [[45, 53], tb okS, x3] ++ [125]) 400000 := by
  refine put_tuple [T1, T2, T3] [[45, 53], tb okS, x3] 20 (by decide) rfl ?_ (by decide) (by decide)
  intro k T x hT hx
  match k, hT, hx with
  | 0, hT, hx => cases hT; cases hx; exact put_int5.mono (by decide)
  | 1, hT, hx => cases hT; cases hx; exact (put_atom okS).mono (by decide)
  | 2, hT, hx => cases hT; cases hx; exact (put_bytes [1, 34] (by decide)).mono (by decide)
theorem txt0 : sb ([123] ++ etx [[45, 53], tb okS, x3] ++ [125]) = ⟨#[123, 45, 53, 44, 111, 107, 44, 34, 92, 120, 48, 49, 92, 34, 34, 125]⟩ := by decide +kernel
theorem len0' : ([123] ++ etx [[45, 53], tb okS, x3] ++ [125]).length ≤ 65536 := by decide +kernel
end Go.Proofs.YtdmichjhmfinpaaGreatDoor
