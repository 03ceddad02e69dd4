/-
  A script in memory; long.
-/
import Derived.Test.YtjffhnpoipolfaaQ
set_option linter.unusedVariables false
set_option linter.unusedSimpArgs false
namespace Go.Proofs.Ytjffhnpoipolfaa
open Go.RowKit Go.Maps Go.WideMaps
variable {S S' : Nat → Prop} {W W1 W' : World}

/-- A call of a script. -/
structure Opd where
  k : Int
  f : Int
  t : Int
  i : Int
  a : Int
  m : Nat
  ba : Option Addr
  bc : Nat
  l : List Nat
abbrev Opd.bv (o : Opd) : Value := .slice o.ba o.l.length o.bc
/-- A script: n calls. -/
structure Scr (W : World) (a : Option Addr) (n cap : Nat) (o : Nat → Opd) : Prop where
  len : (n : Int) ≤ 140737488355328
  cap : n ≤ cap ∧ cap ≤ 9223372036854775807
  cell : ∀ j, j < n → ∃ b off, a = some ⟨b, off, none⟩ ∧ W.cell? ⟨b, off + j * 7, none⟩ = some (.int .i64 (o j).k) ∧ W.cell? ⟨b, off + j * 7 + 1, none⟩ = some (.int .i64 (o j).f) ∧ W.cell? ⟨b, off + j * 7 + 2, none⟩ = some (.int .i64 (o j).t) ∧ W.cell? ⟨b, off + j * 7 + 3, none⟩ = some (.int .i64 (o j).i) ∧ W.cell? ⟨b, off + j * 7 + 4, none⟩ = some (.int .i64 (o j).a) ∧ W.cell? ⟨b, off + j * 7 + 5, none⟩ = some (.int .u32 ((o j).m : Int)) ∧ W.cell? ⟨b, off + j * 7 + 6, none⟩ = some (o j).bv
  sl : ∀ j, j < n → Sl W (o j).bv (o j).l
  ok : ∀ j, j < n → (o j).m < 4294967296
theorem cell_g0 {p : Addr} {v : Value} (h : W.cell? p = some v) (g : G0 W W') : W'.cell? p = some v :=
  (World.cell?_of_block (g.block p.block (World.block_lt_of_cell? W p h) (fun e => e))).trans h
theorem Scr.g0 {a : Option Addr} {n cap : Nat} {o : Nat → Opd} (h : Scr W a n cap o) (g : G0 W W') : Scr W' a n cap o :=
  ⟨h.len, h.cap, fun j hj => by
    obtain ⟨b, off, e, h0, h1, h2, h3, h4, h5, h6⟩ := h.cell j hj
    exact ⟨b, off, e, cell_g0 h0 g, cell_g0 h1 g, cell_g0 h2 g, cell_g0 h3 g, cell_g0 h4 g, cell_g0 h5 g, cell_g0 h6 g⟩, fun j hj => (h.sl j hj).g0 g, h.ok⟩
/-- Some bool; nothing has turned. -/
def SomeB (W : World) (e : Ending) (w' : World) : Prop := ∃ x, e = .returned (.bool x) ∧ W = w'
set_option maxRecDepth 20000 in
set_option maxHeartbeats 800000 in
theorem long_c (W : World) (a : Option Addr) (n cap : Nat) (o : Nat → Opd) (h : Scr W a n cap o) : Calls Try.prog 10 #[.slice a n cap] W (SomeB W) := by
  have hl := h.len
  obtain ⟨hc1, hc2⟩ := h.cap
  go_enter Try.func10, Try.ntmps10
  go_wp2_with fail
  go_loopw [3, 4] (fun sm j wr => ∃ i : Nat, ∃ z : Int, i ≤ n ∧ i ≤ 300 ∧ j = .int .i64 (i : Int) ∧ sm = .int .i64 z ∧ wr = W) (fun _ j _ => 300 - (intOf j).toNat)
  case atStart => exact ⟨0, 0, Nat.zero_le _, by omega, rfl, rfl, rfl⟩
  case round =>
    obtain ⟨i, z, hi, hi3, rfl, rfl, rfl⟩ := hrel
    by_cases hlt : i < n
    · by_cases h3 : i < 300
      · obtain ⟨b, off, rfl, h0, h1, h2, h3', h4, h5, h6⟩ := h.cell i hlt
        have hI : (i : Int) < (n : Int) := by omega
        have hI3 : (i : Int) < 300 := by omega
        have hlen : ((o i).l.length : Int) ≤ 140737488355328 := by have := (h.sl i hlt).len; omega
        have H := Lib.hid h
        clear h
        go_wp2_with fail
        exact ⟨⟨i + 1, _, by omega, by omega, by go_num, rfl, by first | rfl | trivial⟩, by simp [intOf]; omega⟩
      · have hI : (i : Int) < (n : Int) := by omega
        have hI3 : ¬ (i : Int) < 300 := by omega
        clear h
        go_wp2
        go_ret
        first | exact ⟨_, rfl, rfl⟩ | exact ⟨_, rfl⟩ | trivial
    · have hI : ¬ (i : Int) < (n : Int) := by omega
      clear h
      go_wp2
      go_ret
      first | exact ⟨_, rfl, rfl⟩ | exact ⟨_, rfl⟩ | trivial
end Go.Proofs.Ytjffhnpoipolfaa
