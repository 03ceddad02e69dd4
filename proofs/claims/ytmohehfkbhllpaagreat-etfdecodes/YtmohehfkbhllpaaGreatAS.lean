/-
  Carried over from another seat of ours (AS).
-/
import Derived.Test.YtmohehfkbhllpaaGreatZ
import Derived.Laws.BytesString
set_option linter.unusedVariables false
set_option linter.unusedSimpArgs false
namespace Go.Proofs.YtmohehfkbhllpaaGreat
open Go.RowKit Go.Maps

/-- Bytes as a text. -/
def sb (bs : List Int) : ByteArray := bs.foldl (fun r n => r.push (UInt8.ofNat n.toNat)) ByteArray.empty
theorem conv_row {A : Nat → Prop} {W : World} {bs : List Int} {v : Value} (h : RowB A W bs v) : (convert 22 9 v).run Tryz.prog W = .ok (.string (sb bs)) W := by
  rcases h with ⟨rfl, a, c, rfl⟩ | ⟨g, cap, cur, rfl, hg, hc, h1, h2⟩
  · rw [run_convert_bytes_string W 22 9 5 a 0 c Tryz.underlying22 Tryz.underlying5 Tryz.underlying9]
    cases a with
    | none => simp [Conv.bytesToString, sb]
    | some a => exact run_bytesToString W a 0 c [] (by simp [loadCells, loadCellsFrom])
  · rw [run_convert_bytes_string W 22 9 5 _ _ cap Tryz.underlying22 Tryz.underlying5 Tryz.underlying9]
    refine run_bytesToString W _ _ cap bs ?_
    have := run_loadCells_list (P := Tryz.prog) W ⟨g, 0, none⟩ (bs.map (Value.int .u8)) (fun j u hj => by
      have e : (⟨g, 0, none⟩ : Addr).add j = ⟨g, j, none⟩ := by by_cases hj : j = 0 <;> simp [Addr.add, hj]
      rw [e]
      simp only [World.cell?, hc]
      rw [← h2] at hj
      have hlt : j < bs.length := by
        rcases Nat.lt_or_ge j bs.length with h | h
        · exact h
        · rw [List.getElem?_eq_none (by simp; omega)] at hj; cases hj
      rw [List.getElem?_take_of_lt hlt] at hj
      simpa using hj)
    simpa using this

theorem ord_self (x : Nat) : FloatKind.f64.format.order x x = some .eq ∨ FloatKind.f64.format.order x x = none := by
  by_cases h : x % 9223372036854775808 ≤ 9218868437227405312
  · exact .inl (self_fin x h)
  · exact .inr (nan_any x x (by omega))

set_option maxRecDepth 200000 in
set_option maxHeartbeats 3000000 in
theorem flat_c {A A' : Nat → Prop} (W : World) (k n : Int) (x y : Nat) (s : ByteArray) (a c d : Int) (bs : List Int) (bv bw : Value) (m : Nat) (a1 a2 : Option Addr) (c1 c2 : Nat) (h1 : RowB A W bs bv) (h2 : RowB A' W bs bw) :
    Calls Tryz.prog 18 #[tv k n x y s a c d bv (.slice a1 m c1), tv k n x y s a c d bw (.slice a2 m c2)] W fun e w' => e = .returned (.bool true) ∧ Gr (fun _ => False) W w' := by
  have hx := ord_self x
  have hy := ord_self y
  have hb1 : ∃ p q r, bv = .slice p q r := by rcases h1 with ⟨_, a, c, rfl⟩ | ⟨g', cap, cur, rfl, _⟩ <;> exact ⟨_, _, _, rfl⟩
  have hb2 : ∃ p q r, bw = .slice p q r := by rcases h2 with ⟨_, a, c, rfl⟩ | ⟨g', cap, cur, rfl, _⟩ <;> exact ⟨_, _, _, rfl⟩
  obtain ⟨p1, q1, r1, rfl⟩ := hb1
  obtain ⟨p2, q2, r2, rfl⟩ := hb2
  have hc1 : ∀ o o', (convert 22 9 (Value.slice p1 q1 r1)).run Tryz.prog ((W.alloc o).alloc o') = .ok (.string (sb bs)) ((W.alloc o).alloc o') := fun o o' => conv_row (h1.turn (A' := A) (fun z hz hlt => ⟨hz, ((Gr.alloc W o (fun _ => False)).trans (Gr.alloc _ o' _)).block z hlt (fun e => e)⟩))
  have hc2 : ∀ o o', (convert 22 9 (Value.slice p2 q2 r2)).run Tryz.prog ((W.alloc o).alloc o') = .ok (.string (sb bs)) ((W.alloc o).alloc o') := fun o o' => conv_row (h2.turn (A' := A') (fun z hz hlt => ⟨hz, ((Gr.alloc W o (fun _ => False)).trans (Gr.alloc _ o' _)).block z hlt (fun e => e)⟩))
  generalize sb bs = t at hc1 hc2
  rcases hx with hx | hx <;> rcases hy with hy | hy
  all_goals
    go_enter Tryz.func18, Tryz.ntmps18
    go_wp2_with fail
    go_ret
    exact ⟨by simp, (Gr.alloc _ _ _).trans (Gr.alloc _ _ _)⟩
end Go.Proofs.YtmohehfkbhllpaaGreat


