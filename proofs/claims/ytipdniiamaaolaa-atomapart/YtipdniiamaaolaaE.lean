/-
  What the calls Put, Find, Name, Len and All of a table answer.
-/
import Derived.Test.YtipdniiamaaolaaD
namespace Go.Proofs.Ytipdniiamaaolaa
open Go.RowKit Go.Maps Go.WideMaps

theorem Tab.look {W : World} {b : Nat} {m : Option Nat} {sv : Value} {l : List ByteArray} (h : Tab W b m sv l) (s : ByteArray) (hs : s.size ≤ maxLen) :
    (Instr.lookup 52 (.map m) (.string s) true).run Try.prog W = .ok (.tuple #[.int .i64 (((fnd l s 0).getD 0 : Nat) : Int), .bool (fnd l s 0).isSome]) W := by
  have hk := keyOf_string_mk Try.underlying9 hs
  rcases h.map with ⟨rfl, rfl⟩ | ⟨mb, d, rfl, ho, hd⟩
  · exact Maps.look_nil true law Try.underlying52 (zero3 W) hk
  · obtain ⟨v, ps, hrun, hv⟩ := ho.look_ok law Try.underlying52 (zero3 W) (plainElem_int Try.underlying3 (a := 0) (by decide)) hk
    obtain ⟨c, rfl, hc, _⟩ := plainElem_int_inv Try.underlying3 hv
    have h1 := (hd s).1
    have h2 := (hd s).2
    have hc1 := congrArg Prod.fst hc
    rw [hrun]
    have e1 : Maps.has d (Lit.string s.data.toList) = (fnd l s 0).isSome := h1
    have e2 : c = (((fnd l s 0).getD 0 : Nat) : Int) := by
      have : (DataW.lit (.int .i64 c) : DataW Unit) = .lit (.int .i64 (((fnd l s 0).getD 0 : Nat) : Int)) := hc1.symm.trans h2
      injection this with h3
      injection h3
    rw [e1, e2]

def putN (l : List ByteArray) (s : ByteArray) : Int := if isName s = true then (match fnd l s 0 with | some k => (k : Int) | none => if 4096 ≤ l.length then 0 else (l.length : Int)) else 0
def putE (l : List ByteArray) (s : ByteArray) : Int := if isName s = true then (match fnd l s 0 with | some _ => 0 | none => if 4096 ≤ l.length then 31 else 0) else 30
def putL (l : List ByteArray) (s : ByteArray) : List ByteArray := if isName s = true then (match fnd l s 0 with | some _ => l | none => if 4096 ≤ l.length then l else l ++ [s]) else l

theorem Added.refl {W : World} {b : Nat} {m : Option Nat} {sv : Value} {l : List ByteArray} (h : Tab W b m sv l) : Added W W b m sv l := ⟨m, sv, h, Gr.refl _ _, fun _ e => .inl e, fun _ e => .inl e⟩

set_option maxRecDepth 20000 in
set_option maxHeartbeats 1600000 in
theorem put_c (W : World) (b : Nat) (m : Option Nat) (sv : Value) (l : List ByteArray) (s : ByteArray) (h : Tab W b m sv l) :
    Calls Try.prog 14 #[pt b, .string s] W fun e W' => e = .returned (.tuple #[.int .i64 (putN l s), .int .i64 (putE l s)]) ∧ Added W W' b m sv (putL l s) := by
  obtain ⟨c0, c1, f0, f1⟩ := two h.blk
  obtain ⟨a, cap, rfl⟩ := h.sv
  by_cases hs : isName s = true
  · have hk := h.look s (by have := (isName_size hs).2; unfold maxLen; omega)
    have hr : (!isName s) = false := by simp [hs]
    rcases hf : fnd l s 0 with _ | k
    · rw [hf] at hk
      by_cases hl : 4096 ≤ l.length
      · rw [show putN l s = 0 by simp [putN, hs, hf, hl], show putE l s = 31 by simp [putE, hs, hf, hl], show putL l s = l by simp [putL, hs, hf, hl]]
        go_enter Try.func14, Try.ntmps14
        go_wp2_with (first | (go_at_call 10; refine (right_c s _).mono ?_; rintro e w1 ⟨rfl, rfl⟩))
        go_ret2
        exact ⟨rfl, .refl h⟩
      · rw [show putN l s = (l.length : Int) by simp [putN, hs, hf, hl], show putE l s = 0 by simp [putE, hs, hf, hl], show putL l s = l ++ [s] by simp [putL, hs, hf, hl]]
        have hn : s ∉ l := (fnd_none l s 0).1 hf
        have hl2 : l.length < 4096 := by omega
        go_enter Try.func14, Try.ntmps14
        go_wp2_with (first | (go_at_call 10; refine (right_c s _).mono ?_; rintro e w1 ⟨rfl, rfl⟩) | (go_at_call 25; refine (add_c W b m _ l s h hs hn hl2).mono ?_; rintro e w1 ⟨rfl, ha⟩))
        go_ret2
        exact ⟨rfl, ha⟩
    · rw [hf] at hk
      rw [show putN l s = (k : Int) by simp [putN, hs, hf], show putE l s = 0 by simp [putE, hs, hf], show putL l s = l by simp [putL, hs, hf]]
      go_enter Try.func14, Try.ntmps14
      go_wp2_with (first | (go_at_call 10; refine (right_c s _).mono ?_; rintro e w1 ⟨rfl, rfl⟩))
      go_ret2
      exact ⟨rfl, .refl h⟩
  · have hr : isName s = false := by simpa using hs
    rw [show putN l s = 0 by simp [putN, hs], show putE l s = 30 by simp [putE, hs], show putL l s = l by simp [putL, hs]]
    go_enter Try.func14, Try.ntmps14
    go_wp2_with (first | (go_at_call 10; refine (right_c s _).mono ?_; rintro e w1 ⟨rfl, rfl⟩))
    go_ret2
    exact ⟨rfl, .refl h⟩

theorem find_c (W : World) (b : Nat) (m : Option Nat) (sv : Value) (l : List ByteArray) (s : ByteArray) (h : Tab W b m sv l) (hs : s.size ≤ maxLen) :
    Calls Try.prog 16 #[pt b, .string s] W fun e W' => e = .returned (.tuple #[.int .i64 (((fnd l s 0).getD 0 : Nat) : Int), .bool (fnd l s 0).isSome]) ∧ W = W' := by
  obtain ⟨c0, c1, f0, f1⟩ := two h.blk
  have hk := h.look s hs
  go_enter Try.func16, Try.ntmps16
  go_wp2
  go_ret2
  exact ⟨rfl, rfl⟩

def nameS (l : List ByteArray) (n : Int) : ByteArray := if 0 ≤ n ∧ n < l.length then l.getD n.toNat ⟨#[]⟩ else ⟨#[]⟩
def nameE (l : List ByteArray) (n : Int) : Int := if 0 ≤ n ∧ n < l.length then 0 else 32
theorem Tab.at {W : World} {b g cap : Nat} {m : Option Nat} {l : List ByteArray} (h : Tab W b m (.slice (some ⟨g, 0, none⟩) l.length cap) l) (k : Nat) (hk : k < l.length) : W.cell? ⟨g, k, none⟩ = some (.string (l.getD k ⟨#[]⟩)) := by
  have := h.row.cellAt (g := g) k (by omega)
  rw [this]
  simp [hk]

set_option maxHeartbeats 800000 in
theorem nameC (W : World) (b : Nat) (m : Option Nat) (sv : Value) (l : List ByteArray) (n : Int) (h : Tab W b m sv l) :
    Calls Try.prog 17 #[pt b, .int .i64 n] W fun e W' => e = .returned (.tuple #[.string (nameS l n), .int .i64 (nameE l n)]) ∧ W = W' := by
  obtain ⟨c0, c1, f0, f1⟩ := two h.blk
  by_cases h0 : 0 ≤ n
  · by_cases h1 : n < l.length
    · obtain ⟨k, rfl⟩ : ∃ k : Nat, n = k := ⟨n.toNat, by omega⟩
      have hk : k < l.length := by omega
      rw [show nameS l k = l.getD k ⟨#[]⟩ by simp [nameS, hk], show nameE l k = 0 by simp [nameE, hk]]
      rcases h.row.2 with ⟨rfl, e⟩ | ⟨g, cap, cur, rfl, _, _, hcap, _⟩
      · omega
      · have hc := h.at k hk
        generalize l.getD k ⟨#[]⟩ = x at hc ⊢
        go_enter Try.func17, Try.ntmps17
        go_wp2
        go_ret2
        exact ⟨rfl, rfl⟩
    · rw [show nameS l n = ⟨#[]⟩ by simp [nameS, h1], show nameE l n = 32 by simp [nameE, h1]]
      obtain ⟨a, cap, rfl⟩ := h.sv
      go_enter Try.func17, Try.ntmps17
      go_wp2
      go_ret2
      exact ⟨rfl, rfl⟩
  · rw [show nameS l n = ⟨#[]⟩ by simp [nameS, h0], show nameE l n = 32 by simp [nameE, h0]]
    obtain ⟨a, cap, rfl⟩ := h.sv
    go_enter Try.func17, Try.ntmps17
    go_wp2
    go_ret2
    exact ⟨rfl, rfl⟩

theorem len_c (W : World) (b : Nat) (m : Option Nat) (sv : Value) (l : List ByteArray) (h : Tab W b m sv l) :
    Calls Try.prog 20 #[pt b] W fun e W' => e = .returned (.int .i64 (l.length : Int)) ∧ W = W' := by
  obtain ⟨c0, c1, f0, f1⟩ := two h.blk
  obtain ⟨a, cap, rfl⟩ := h.sv
  go_enter Try.func20, Try.ntmps20
  go_wp2
  go_ret
  exact ⟨rfl, rfl⟩

/-- All: a function that goes over the list as it is now. -/
theorem all_c (W : World) (b : Nat) (m : Option Nat) (sv : Value) (l : List ByteArray) (h : Tab W b m sv l) :
    Calls Try.prog 22 #[pt b] W fun e W' => e = .returned (.func (.func 26) #[] #[pt W.heap.size]) ∧ W' = W.alloc (.cells #[sv] 27) := by
  obtain ⟨c0, c1, f0, f1⟩ := two h.blk
  obtain ⟨a, cap, rfl⟩ := h.sv
  have hbb : b < W.heap.size := h.lt b (.inl rfl)
  go_enter Try.func22, Try.ntmps22
  go_wp2
  go_ret
  exact ⟨rfl, rfl⟩
end Go.Proofs.Ytipdniiamaaolaa
