/-
  Carried over from another seat of ours (BG).
  Carried over from another seat of ours (BR).
  Carried over from another seat of ours (BH).
-/
import Derived.Test.YtmohehfkbhllpaaGreatBE
import Derived.Test.YtmohehfkbhllpaaGreatA
import Derived.Lib.Bytealg
import Derived.Laws.Externs
import Derived.BigRegion
import Derived.Laws.BitsAllLaws
import Derived.Deep.RegionHeld3
import Derived.Shelf.LaysM
import Derived.Shelf.Strconv.Itoa1
import Derived.Shelf.Strconv.Itoa2
import Derived.Lib.ItoaWalk
import Derived.Lib.ItoaMem
import Derived.Lib.AppendIntMem
import Derived.Test.YtmohehfkbhllpaaGreatBB
set_option linter.unusedVariables false
set_option linter.unusedSimpArgs false
namespace Go.Proofs.YtmohehfkbhllpaaGreat
open Go.RowKit Go.Maps
variable {S S' : Nat → Prop} {W W1 W' : World}

end Go.Proofs.YtmohehfkbhllpaaGreat
/-
  The text of bytes.
-/
namespace Go.Proofs.YtmohehfkbhllpaaGreat
open Go.RowKit Go.Maps
variable {S S' : Nat → Prop} {W W1 W' : World}

/-- The digit of a number below 16. -/
def hx (k : Nat) : Nat := if k < 10 then 48 + k else 87 + k
end Go.Proofs.YtmohehfkbhllpaaGreat



namespace Go.Proofs.YtmohehfkbhllpaaGreat
open Go.Shelf
end Go.Proofs.YtmohehfkbhllpaaGreat
namespace Go.Proofs.YtmohehfkbhllpaaGreat
open Go.RowKit Go.Maps Go.Sort
variable {S S' : Nat → Prop} {W W1 W' : World}

def dd (u : Nat) : List Int := (Lib.decDigits u).map fun c => (c.toNat : Int)
end Go.Proofs.YtmohehfkbhllpaaGreat



namespace Go.Proofs.YtmohehfkbhllpaaGreat
open Go.RowKit Go.Maps
variable {S S' : Nat → Prop} {W W1 W' : World}

/-- A row of one byte. -/
def Lit (w : World) (g : Nat) (q : Int) : Prop := w.heap[g]? = some (.cells #[.int .u8 q] 5 (0, 0))
theorem Lit.sb {w : World} {g : Nat} {q : Int} (h : Lit w g q) : Sb w (.slice (some ⟨g, 0, none⟩) 1 1) [q] := by
  refine .inr ⟨⟨g, 0, none⟩, 1, rfl, fun j u hu => ?_⟩
  have hj : j < 1 := by simpa using (List.getElem?_eq_some_iff.1 hu).1
  obtain rfl : j = 0 := by omega
  unfold Lit at h
  simp [u8s] at hu
  subst hu
  simp [Addr.add, World.cell?, h]
theorem Lit.lt {w : World} {g : Nat} {q : Int} (h : Lit w g q) : g < w.heap.size := (Array.getElem?_eq_some_iff.1 h).1
theorem Lit.g0 {w w' : World} {g : Nat} {q : Int} (h : Lit w g q) (k : Gr (fun _ => False) w w') : Lit w' g q := k.keep h (fun e => e)
theorem Lit.new (w : World) (q : Int) : Lit (w.alloc (.cells #[.int .u8 q] 5)) w.heap.size q := heap_alloc_new w _
theorem Loc.own_ne {w w' : World} {b b' : Value} {g : Nat} (k : Loc b w b' w') (hg : g < w.heap.size) (hb : b.ownBlock ≠ some g) : b'.ownBlock ≠ some g := by
  rcases k.at_ with h | h
  · rw [h]; exact hb
  · intro e; have := h g e; omega
theorem Ob.own {base : Nat} {b : Value} {l : List Int} (h : Ob base W b l) : ∀ g, W.heap.size ≤ g → b.ownBlock ≠ some g := fun g hg e => by have := (ownsRow_lt h.row g e).2; omega

end Go.Proofs.YtmohehfkbhllpaaGreat


