/-
  A script that came in.
-/
import Derived.Test.YtjffhnpoipolfaaP
import Derived.Test.YtjffhnpoipolfaaS
import Derived.Deep.Slices
import Derived.Deep.Strs
set_option linter.unusedVariables false
set_option linter.unusedSimpArgs false
namespace Go.Proofs.Ytjffhnpoipolfaa
open Go.ChangeShapes Go.WideShapes Go.ChangeAt Go.RowKit Go.Deep
theorem bytes36 : Try.prog.bytesOf 36 = 72 := by kernel_rfl
theorem weights_all {H : Type} {P : Program} {e : TypeId} : ∀ {ds : List (DataW H)} {d : DataW H}, d ∈ ds → ∀ n ∈ d.weights P e, n ∈ DataW.weightsAll P e ds
  | d0 :: ds, d, hd, n, hn => by
    simp only [DataW.weightsAll, List.mem_append]
    rcases List.mem_cons.1 hd with rfl | hd
    · exact .inl hn
    · exact .inr (weights_all hd n hn)
section
variable {H : Type} {enc : TypeId × Value → H} {W : World}
theorem open_scr {fuel : Nat} {v : Value} {x : DataW H × List MemPlace} (hf : DataW.trod enc Try.prog W 0 (fun _ => true) true fuel 22 [v] = some x) (hz : ∀ n ∈ x.1.weights Try.prog 22, n ≤ reachBytes) :
    ∃ a n cap o, v = .slice a n cap ∧ Scr W a n cap o := by
  rcases open_slice Try.underlying22 hf with ⟨hcs, hx⟩ | ⟨a, len, cap, m, n, D, Pl, hcs, _, hl, hm, hmm, hx, hel⟩
  · simp at hcs
    subst hcs
    exact ⟨none, 0, 0, fun _ => ⟨0, 0, 0, 0, 0, 0, none, 0, []⟩, rfl, ⟨by simp, ⟨Nat.le_refl _, by omega⟩, fun j hj => by omega, fun j hj => by omega, fun j hj => by omega⟩⟩
  · simp at hcs
    subst hcs
    subst hx
    simp only [if_true] at hmm
    subst hmm
    have hr := reachBytes_lt
    have hlen : (((List.range len).map D).length + ((List.range (m - len)).map fun j => D (len + j)).length) * Try.prog.bytesOf 36 ≤ reachBytes := by
      apply hz
      simp [DataW.weights, Try.underlying22]
    rw [bytes36] at hlen
    simp only [List.length_map, List.length_range] at hlen
    have hwd : ∀ i, i < len → ∀ n ∈ (D i).weights Try.prog 36, n ≤ reachBytes := by
      intro i hi n hn
      apply hz
      have : n ∈ DataW.weightsAll Try.prog 36 ((List.range len).map D) := weights_all (List.mem_map_of_mem (List.mem_range.2 hi)) n hn
      simp [DataW.weights, Try.underlying22, this]
    have each : ∀ i, i < len → ∃ q : Opd, (W.cell? (a.add (i * 7)) = some (.int .i64 q.k) ∧ W.cell? (a.add (i * 7 + 1)) = some (.int .i64 q.f) ∧ W.cell? (a.add (i * 7 + 2)) = some (.int .i64 q.t) ∧ W.cell? (a.add (i * 7 + 3)) = some (.int .i64 q.i) ∧ W.cell? (a.add (i * 7 + 4)) = some (.int .i64 q.a) ∧ W.cell? (a.add (i * 7 + 5)) = some (.int .u32 (q.m : Int)) ∧ W.cell? (a.add (i * 7 + 6)) = some q.bv) ∧ Sl W q.bv q.l ∧ q.m < 4294967296 := by
      intro i hi
      obtain ⟨cs', h1, h2⟩ := hel i (by omega)
      rw [cells36] at h1
      obtain ⟨_, hlen', hcell⟩ := World.cells?_some h1
      obtain ⟨k, f, t, ii, aa, mm, bv, l, rfl, hs, hmm, _⟩ := open_op h2 (hwd i hi)
      obtain ⟨ba, bc, rfl⟩ : ∃ a cap, bv = .slice a l.length cap := by
        rcases hs.at' with ⟨rfl, rfl⟩ | ⟨a, cap, rfl, h1, h2, h3⟩
        · exact ⟨_, _, rfl⟩
        · exact ⟨_, _, rfl⟩
      have k0 := hcell 0 (by omega)
      have k1 := hcell 1 (by omega)
      have k2 := hcell 2 (by omega)
      have k3 := hcell 3 (by omega)
      have k4 := hcell 4 (by omega)
      have k5 := hcell 5 (by omega)
      have k6 := hcell 6 (by omega)
      rw [add_add] at k0 k1 k2 k3 k4 k5 k6
      exact ⟨⟨k, f, t, ii, aa, mm, ba, bc, l⟩, ⟨by simpa using k0, by simpa using k1, by simpa using k2, by simpa using k3, by simpa using k4, by simpa using k5, by simpa using k6⟩, hs, hmm⟩
    haveI : Inhabited Opd := ⟨⟨0, 0, 0, 0, 0, 0, none, 0, []⟩⟩
    obtain ⟨o, ho⟩ := choose_lt each
    refine ⟨some a, len, m, o, rfl, ⟨by omega, ⟨hl, by unfold maxLen at hm; omega⟩, fun j hj => ?_, fun j hj => (ho j hj).2.1, fun j hj => (ho j hj).2.2⟩⟩
    obtain ⟨⟨h0, h1, h2, h3, h4, h5, h6⟩, _⟩ := ho j hj
    have h00 := (ho 0 (by omega)).1.1
    obtain ⟨b, off, spot⟩ := a
    have hspot : spot = none := by simpa [Addr.add] using World.cell?_spot h00
    clear h00
    subst hspot
    rw [add_plain] at h0 h1 h2 h3 h4 h5 h6
    exact ⟨b, off, rfl, h0, by rw [Nat.add_assoc]; exact h1, by rw [Nat.add_assoc]; exact h2, by rw [Nat.add_assoc]; exact h3, by rw [Nat.add_assoc]; exact h4, by rw [Nat.add_assoc]; exact h5, by rw [Nat.add_assoc]; exact h6⟩
end
end Go.Proofs.Ytjffhnpoipolfaa
