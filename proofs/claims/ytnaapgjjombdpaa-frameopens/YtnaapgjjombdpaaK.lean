/-
  The chapter's examples come out.
-/
import Derived.Test.YtnaapgjjombdpaaJ
import Derived.Lib.SlBytesConst
namespace Go.Proofs.Ytnaapgjjombdpaa
open Go.RowKit Go.Maps
variable {S S' : Nat → Prop} {W W1 W' : World}

theorem ex_sum : sum [49, 50, 51, 52, 53, 54, 55, 56, 57] = 3421780262 := by decide +kernel
theorem ex_opn : opn (wire 1 2 3 [7]) = 0 := by decide +kernel
theorem ex_hi : hi4 (wire 1 2 3 [7]) 4 = 3 := by decide +kernel
theorem ex_two : (wire 1 2 3 [7]).getD 2 0 = 1 ∧ (wire 1 2 3 [7]).getD 3 0 = 2 := by decide +kernel
theorem ex_body : body (wire 1 2 3 [7]) = [7] := by decide +kernel
theorem ex_len : (wire 1 2 3 [7]).length = 13 := by decide +kernel
theorem ex_chk : chk 1 2 3 1 = 0 := by decide +kernel

theorem ex_pack (W : World) (v : Value) (h : Sl W v [7]) : Calls Try.prog 13 #[fr 1 2 3 v] W fun e w' => ∃ a cap, e = .returned (.tuple #[.slice a 13 cap, .int .i64 0]) ∧ Ow W.heap.size w' (.slice a 13 cap) (wire 1 2 3 [7]) ∧ G0 W w' := by
  refine (pack_yes W 1 2 3 v [7] h (by decide) ex_chk).mono ?_
  rintro e w' ⟨v', rfl, ho, hg⟩
  obtain ⟨a, cap, rfl⟩ := ho.sv
  rw [ex_len] at ho ⊢
  exact ⟨a, cap, rfl, ho, hg⟩
theorem ex_open (W : World) (v : Value) (h : Sl W v (wire 1 2 3 [7])) : Calls Try.prog 17 #[v] W fun e w' => ∃ a cap, e = .returned (.tuple #[fr 1 2 3 (.slice a 1 cap), .int .i64 0]) ∧ G0 W w' := by
  refine (open_c W v _ h).mono ?_
  rintro e w' ⟨hg, ⟨h0, -⟩ | ⟨-, v', rfl, ho⟩⟩
  · exact absurd ex_opn h0
  · rw [ex_body] at ho
    obtain ⟨a, cap, rfl⟩ := ho.sv
    rw [ex_two.1, ex_two.2, ex_hi]
    exact ⟨a, cap, rfl, hg⟩
theorem ex_sums (W : World) (v : Value) (h : Sl W v [49, 50, 51, 52, 53, 54, 55, 56, 57]) : Calls Try.prog 10 #[v] W fun e w' => e = .returned (.int .u32 3421780262) ∧ W = w' := by
  refine (sum_c W v _ h).mono ?_
  rintro e w' ⟨rfl, rfl⟩
  rw [ex_sum]
  exact ⟨rfl, rfl⟩
abbrev nine : Array Value := #[.int .u8 49, .int .u8 50, .int .u8 51, .int .u8 52, .int .u8 53, .int .u8 54, .int .u8 55, .int .u8 56, .int .u8 57]
theorem ex_nine (W : World) (o : Obj) : Sl ((W.alloc o).alloc (.cells nine 5 (9, 10))) (.slice (some ⟨W.heap.size + 1, 0, none⟩) 9 9) [49, 50, 51, 52, 53, 54, 55, 56, 57] := by
  refine ⟨by decide, by decide, .inr ⟨⟨W.heap.size + 1, 0, none⟩, 9, rfl, by decide, by decide, fun i hi => ?_⟩⟩
  have hs : (W.alloc o).heap.size = W.heap.size + 1 := by simp
  rw [Addr.add_lit, ← hs, Nat.zero_add, World.cell?_alloc_mark]
  have : i < 9 := hi
  match i, this with
  | 0, _ => rfl
  | 1, _ => rfl
  | 2, _ => rfl
  | 3, _ => rfl
  | 4, _ => rfl
  | 5, _ => rfl
  | 6, _ => rfl
  | 7, _ => rfl
  | 8, _ => rfl
theorem ex_conv (W : World) (o : Obj) : (convert 22 22 (.slice (some ⟨W.heap.size + 1, 0, none⟩) 9 9)).run Try.prog ((W.alloc o).alloc (.cells nine 5)) = .ok (.slice (some ⟨W.heap.size + 1, 0, none⟩) 9 9) ((W.alloc o).alloc (.cells nine 5 (9, 10))) := by
  have hs : (W.alloc o).heap.size = W.heap.size + 1 := by simp
  have := Lib.run_convert_bytes_const (P := Try.prog) (W.alloc o) 22 5 nine 9 9 Try.underlying22 Try.underlying5
  rw [hs] at this
  exact this
theorem ex_seven (W : World) : Sl (W.alloc (.cells #[.int .u8 7] 5)) (.slice (some ⟨W.heap.size, 0, none⟩) 1 1) [7] :=
  (Ow.lit 0 W [7] (by decide) (by decide) (Nat.zero_le _) _ rfl 1 rfl).sl

set_option maxRecDepth 20000 in
set_option maxHeartbeats 1000000 in
theorem alive_c (W : World) : Calls Try.prog 9 #[] W fun e w' => e = .returned (.bool true) ∧ G0 W w' := by
  have h7 := ex_seven W
  have kc := ex_conv
  have g7 : G0 W (W.alloc (.cells #[.int .u8 7] 5)) := Gr.alloc _ _ _
  go_enter Try.func9, Try.ntmps9
  go_wp2_with (first
    | (go_at_call 13; refine (ex_pack _ _ h7).mono ?_; rintro e w1 ⟨a, cap, rfl, ho, hg1⟩)
    | (go_at_call 17; refine (ex_open _ _ ho.sl).mono ?_; rintro e w2 ⟨a2, cap2, rfl, hg2⟩)
    | (go_at_call 10; refine (ex_sums _ _ (ex_nine _ _)).mono ?_; rintro e w3 ⟨rfl, rfl⟩))
  go_ret
  exact ⟨rfl, (((g7.trans hg1).trans hg2).trans (Gr.alloc _ _ _)).trans (Gr.alloc _ _ _)⟩
end Go.Proofs.Ytnaapgjjombdpaa
