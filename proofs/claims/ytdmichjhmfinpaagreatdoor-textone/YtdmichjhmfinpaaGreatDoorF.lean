/-
  Numbers out of rows of digits: what the library's public calls tell, and what fit and integer make of it.
-/
import Derived.Test.YtdmichjhmfinpaaGreatDoorE
import Derived.WideLaws
set_option linter.unusedVariables false
set_option linter.unusedSimpArgs false
namespace Go.Proofs.YtdmichjhmfinpaaGreatDoor
open Go.RowKit

/-- The library's variable ErrRange holds an error. -/
def Er (W : World) : Prop := ∃ tp p, W.cell? ⟨4, 0, none⟩ = some (.iface tp p)
theorem Er.lt {W : World} (h : Er W) : 4 < W.heap.size := by
  obtain ⟨tp, p, h⟩ := h
  by_cases h4 : 4 < W.heap.size
  · exact h4
  · simp [World.cell?, Array.getElem?_eq_none (Nat.le_of_not_lt h4)] at h
theorem Er.gr {S : Nat → Prop} {W W' : World} (h : Er W) (g : Gr S W W') (hs : ¬ S 4) : Er W' := by
  have hl := h.lt
  obtain ⟨tp, p, h⟩ := h
  refine ⟨tp, p, ?_⟩
  simp only [World.cell?] at h ⊢
  rw [g.block 4 hl hs]; exact h

theorem q12 (w : World) : (binOp .eql 128 (.iface 151 (.int .i64 1)) (.iface 151 (.int .i64 2))).run Tryz.prog w = .ok (.bool false) w := by kernel_rfl
theorem q11 (w : World) : (binOp .eql 128 (.iface 151 (.int .i64 1)) (.iface 151 (.int .i64 1))).run Tryz.prog w = .ok (.bool true) w := by kernel_rfl
theorem n11 (w : World) : (binOp .neq 128 (.iface 151 (.int .i64 1)) (.iface 151 (.int .i64 1))).run Tryz.prog w = .ok (.bool false) w := by kernel_rfl
theorem n1n (w : World) : (binOp .neq 128 (.iface 151 (.int .i64 1)) .nilIface).run Tryz.prog w = .ok (.bool true) w := by kernel_rfl
theorem nnn (w : World) : (binOp .neq 128 .nilIface .nilIface).run Tryz.prog w = .ok (.bool false) w := by kernel_rfl
theorem npn (w : World) (v : Value) : (binOp .neq 128 (.iface 154 v) .nilIface).run Tryz.prog w = .ok (.bool true) w := by kernel_rfl

set_option maxRecDepth 20000 in
set_option maxHeartbeats 1600000 in
theorem rangeError_c (W : World) (f t : ByteArray) (h1 : 1 ≤ t.size) (h2 : t.size ≤ 65536) (hE : Er W) :
    Calls Tryz.prog 145 #[.string f, .string t] W fun e w' => (∃ N, e = .returned (pt N)) ∧ Gr (fun _ => False) W w' := by
  have hl := hE.lt
  have hE2 := hE
  obtain ⟨tp, p, hE⟩ := hE
  have Hl := Lib.hid hl
  go_enter Tryz.func145, Tryz.ntmps145
  go_wp2_with fail
  go_region_with (first | (go_at_call 132; refine (clone0_c t _ h1 h2).mono ?_; rintro e w5 ⟨rfl, hg5⟩; have hE5 := Er.gr (W' := w5) (hE2.gr (Gr.drew W (fun _ => False)) (fun e => e)) (Gr.of_below hg5 (fun _ => False)) (fun e => e); obtain ⟨tp5, p5, hE5⟩ := hE5))
  all_goals (go_wp2_with fail; go_ret; exact ⟨⟨_, rfl⟩, ((Gr.drew W (fun _ => False)).trans (Gr.of_below hg5 _)).trans (Gr.alloc _ _ _)⟩)

set_option maxRecDepth 20000 in
set_option maxHeartbeats 1600000 in
theorem toError_c (W : World) (f t : ByteArray) (x : Int) (h1 : 1 ≤ t.size) (h2 : t.size ≤ 65536) (hE : Er W) :
    Calls Tryz.prog 131 #[.string f, .string t, .int .i64 10, .int .i64 x, .iface 151 (.int .i64 1)] W fun e w' => (∃ N, e = .returned (.iface 154 (pt N))) ∧ Gr (fun _ => False) W w' := by
  have k1 := q12
  have k2 := q11
  go_enter Tryz.func131, Tryz.ntmps131
  go_wp2_with (first | (go_at_call 145; refine (rangeError_c W f t h1 h2 hE).mono ?_; rintro e w5 ⟨⟨N, rfl⟩, hg5⟩))
  go_ret
  exact ⟨⟨N, rfl⟩, hg5⟩

/-- The number that digits make, or 0 where so many bits can't hold it. -/
def fitV (M v : Int) : Int := if v ≤ M then v else 0

set_option maxRecDepth 20000 in
set_option maxHeartbeats 1600000 in
theorem fit31_c (W : World) (t : ByteArray) (h1 : 1 ≤ t.size) (h2 : t.size ≤ 20) (hD : ∀ k, k < t.size → dig (bt t k) = true) (hE : Er W) :
    Calls Tryz.prog 134 #[.string t, .int .i64 31] W fun e w' => e = .returned (.int .u64 (fitV 2147483647 (dva t t.size))) ∧ Gr (fun _ => False) W w' := by
  have k1 := n1n
  have k2 := nnn
  have k3 := npn
  have hp := fun W => pu31 W t h1 h2 hD
  generalize dva t t.size = v at hp ⊢
  clear hD
  have Hv : Hid True := trivial
  by_cases h3 : v ≤ 2147483647
  · rw [show puV 2147483647 v = .tuple #[.int .u64 v, .nilIface] by rw [puV, if_pos h3]] at hp
    rw [show fitV 2147483647 v = v by rw [fitV, if_pos h3]]
    clear h3
    go_enter Tryz.func134, Tryz.ntmps134
    go_wp2_with (first | (go_at_call 148; go_in) | (go_at_call 143; refine (hp _).mono ?_; rintro e w5 ⟨rfl, hg5⟩))
    go_ret
    exact ⟨rfl, hg5⟩
  · rw [show puV 2147483647 v = .tuple #[.int .u64 2147483647, .iface 151 (.int .i64 1)] by rw [puV, if_neg h3]] at hp
    rw [show fitV 2147483647 v = 0 by rw [fitV, if_neg h3]]
    clear h3
    go_enter Tryz.func134, Tryz.ntmps134
    go_wp2_with (first | (go_at_call 148; go_in) | (go_at_call 143; refine (hp _).mono ?_; rintro e w5 ⟨rfl, hg5⟩; have hE5 := hE.gr hg5 (fun e => e)) | (go_at_call 131; refine (toError_c _ _ t _ h1 (by omega) hE5).mono ?_; rintro e w6 ⟨⟨N, rfl⟩, hg6⟩))
    go_ret
    exact ⟨rfl, hg5.trans hg6⟩

set_option maxRecDepth 20000 in
set_option maxHeartbeats 1600000 in
theorem fit32_c (W : World) (t : ByteArray) (h1 : 1 ≤ t.size) (h2 : t.size ≤ 20) (hD : ∀ k, k < t.size → dig (bt t k) = true) (hE : Er W) :
    Calls Tryz.prog 134 #[.string t, .int .i64 32] W fun e w' => e = .returned (.int .u64 (fitV 4294967295 (dva t t.size))) ∧ Gr (fun _ => False) W w' := by
  have k1 := n1n
  have k2 := nnn
  have k3 := npn
  have hp := fun W => pu32 W t h1 h2 hD
  generalize dva t t.size = v at hp ⊢
  clear hD
  have Hv : Hid True := trivial
  by_cases h3 : v ≤ 4294967295
  · rw [show puV 4294967295 v = .tuple #[.int .u64 v, .nilIface] by rw [puV, if_pos h3]] at hp
    rw [show fitV 4294967295 v = v by rw [fitV, if_pos h3]]
    clear h3
    go_enter Tryz.func134, Tryz.ntmps134
    go_wp2_with (first | (go_at_call 148; go_in) | (go_at_call 143; refine (hp _).mono ?_; rintro e w5 ⟨rfl, hg5⟩))
    go_ret
    exact ⟨rfl, hg5⟩
  · rw [show puV 4294967295 v = .tuple #[.int .u64 4294967295, .iface 151 (.int .i64 1)] by rw [puV, if_neg h3]] at hp
    rw [show fitV 4294967295 v = 0 by rw [fitV, if_neg h3]]
    clear h3
    go_enter Tryz.func134, Tryz.ntmps134
    go_wp2_with (first | (go_at_call 148; go_in) | (go_at_call 143; refine (hp _).mono ?_; rintro e w5 ⟨rfl, hg5⟩; have hE5 := hE.gr hg5 (fun e => e)) | (go_at_call 131; refine (toError_c _ _ t _ h1 (by omega) hE5).mono ?_; rintro e w6 ⟨⟨N, rfl⟩, hg6⟩))
    go_ret
    exact ⟨rfl, hg5.trans hg6⟩

set_option maxRecDepth 20000 in
set_option maxHeartbeats 1600000 in
theorem fit64_c (W : World) (t : ByteArray) (h1 : 1 ≤ t.size) (h2 : t.size ≤ 20) (hD : ∀ k, k < t.size → dig (bt t k) = true) (hE : Er W) :
    Calls Tryz.prog 134 #[.string t, .int .i64 64] W fun e w' => e = .returned (.int .u64 (fitV 18446744073709551615 (dva t t.size))) ∧ Gr (fun _ => False) W w' := by
  have k1 := n1n
  have k2 := nnn
  have k3 := npn
  have hp := fun W => pu64 W t h1 h2 hD
  generalize dva t t.size = v at hp ⊢
  clear hD
  have Hv : Hid True := trivial
  by_cases h3 : v ≤ 18446744073709551615
  · rw [show puV 18446744073709551615 v = .tuple #[.int .u64 v, .nilIface] by rw [puV, if_pos h3]] at hp
    rw [show fitV 18446744073709551615 v = v by rw [fitV, if_pos h3]]
    clear h3
    go_enter Tryz.func134, Tryz.ntmps134
    go_wp2_with (first | (go_at_call 148; go_in) | (go_at_call 143; refine (hp _).mono ?_; rintro e w5 ⟨rfl, hg5⟩))
    go_ret
    exact ⟨rfl, hg5⟩
  · rw [show puV 18446744073709551615 v = .tuple #[.int .u64 18446744073709551615, .iface 151 (.int .i64 1)] by rw [puV, if_neg h3]] at hp
    rw [show fitV 18446744073709551615 v = 0 by rw [fitV, if_neg h3]]
    clear h3
    go_enter Tryz.func134, Tryz.ntmps134
    go_wp2_with (first | (go_at_call 148; go_in) | (go_at_call 143; refine (hp _).mono ?_; rintro e w5 ⟨rfl, hg5⟩; have hE5 := hE.gr hg5 (fun e => e)) | (go_at_call 131; refine (toError_c _ _ t _ h1 (by omega) hE5).mono ?_; rintro e w6 ⟨⟨N, rfl⟩, hg6⟩))
    go_ret
    exact ⟨rfl, hg5.trans hg6⟩
end Go.Proofs.YtdmichjhmfinpaaGreatDoor
