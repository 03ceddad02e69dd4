/-
  A scope in which the run jumps to several labels; where the reader's labels stand.
-/
import Derived.Test.YtmohehfkbhllpaaKE
import Derived.ScopeJumps
import Derived.WalkMore
set_option linter.unusedVariables false
set_option linter.unusedSimpArgs false
namespace Go.Proofs.Ytmohehfkbhllpaa
open Go.RowKit Go.Maps

/-- As Q; by a goto to label l: J at l, and less than n by the measure. -/
def jumps (J : Nat → Act → World → Prop) (μ : Nat → Act → World → Nat) (n : Nat) (Q : Exit → Act → World → Prop) : Exit → Act → World → Prop
  | .goto l, a, w => J l a w ∧ μ l a w < n
  | e, a, w => Q e a w
theorem wp_scope_many {P : Program} {c : Code} {a : Act} {w : World} {Q : Exit → Act → World → Prop} (rest : Nat → Code) (J : Nat → Act → World → Prop) (μ : Nat → Act → World → Nat) (n0 : Nat) (hf : ∀ l a w, J l a w → findLabel c l = some (rest l))
    (first : c.wp P (jumps J μ n0 Q) a w) (pass : ∀ l a w, J l a w → (rest l).wp P (jumps J μ (μ l a w) Q) a w) : (Code.scope c).wp P Q a w := by
  intro b k cs
  have hg : ∀ l a w, J l a w → gotoIn l (.inScope c :: k) = some (.code (rest l) :: .inScope c :: k) := fun l a w hJ => by simp [gotoIn, hf l a w hJ]
  have key : ∀ n l a w, μ l a w = n → J l a w → ∃ e a' w', Q e a' w' ∧ Arrives P (lone (b.at a (.code (rest l) :: .inScope c :: k)) cs w) b k cs e a' w' := by
    intro n
    induction n using Nat.strongRecOn with
    | _ n ih =>
      intro l a w hn hJ
      obtain ⟨e, a₁, w₁, hq, harr⟩ := pass l a w hJ b (.inScope c :: k) cs
      cases e with
      | normal => exact ⟨.normal, a₁, w₁, hq, Steps.trans harr (.one step_inScope)⟩
      | exit id => exact ⟨.exit id, a₁, w₁, hq, fun k' hk => harr k' (by simp [exitTo, hk])⟩
      | goto l' =>
        obtain ⟨hJ', hlt⟩ := hq
        obtain ⟨e₂, a₂, w₂, hq₂, harr₂⟩ := ih _ (by omega) l' a₁ w₁ rfl hJ'
        exact ⟨e₂, a₂, w₂, hq₂, .of_steps (harr _ (hg l' a₁ w₁ hJ')) harr₂⟩
      | ret => exact ⟨_, a₁, w₁, hq, harr⟩
      | panic ch => exact ⟨_, a₁, w₁, hq, harr⟩
      | outgrown => exact ⟨_, a₁, w₁, hq, harr⟩
  obtain ⟨e, a₁, w₁, hq, harr⟩ := first b (.inScope c :: k) cs
  cases e with
  | normal => exact ⟨.normal, a₁, w₁, hq, .head step_scope (Steps.trans harr (.one step_inScope))⟩
  | exit id => exact ⟨.exit id, a₁, w₁, hq, fun k' hk => .head step_scope (harr k' (by simp [exitTo, hk]))⟩
  | goto l' =>
    obtain ⟨hJ', -⟩ := hq
    obtain ⟨e₂, a₂, w₂, hq₂, harr₂⟩ := key _ l' a₁ w₁ rfl hJ'
    exact ⟨e₂, a₂, w₂, hq₂, .of_steps (.head step_scope (harr _ (hg l' a₁ w₁ hJ'))) harr₂⟩
  | ret => exact ⟨_, a₁, w₁, hq, .of_steps (.one step_scope) harr⟩
  | panic ch => exact ⟨_, a₁, w₁, hq, .of_steps (.one step_scope) harr⟩
  | outgrown => exact ⟨_, a₁, w₁, hq, .of_steps (.one step_scope) harr⟩

def scopeOf : Code → Code
  | .seq _ (.scope c) => c
  | c => c
/-- What stands behind a label of whole. -/
def Lab (l : Nat) (c : Code) : Prop := findLabel (scopeOf (Try.f13.body.getD .skip)) l = some c

/-! ### What bytes are -/
abbrev Rs := Except Int (Tm × List Int × Nat × List ByteArray)
/-- So many elements, each read by p, behind some. -/
def elq (p : List Int → Nat → List ByteArray → Except Int (Tm × List Int × Nat × List ByteArray)) : Nat → List Int → Nat → List ByteArray → List Tm → Except Int (List Tm × List Int × Nat × List ByteArray)
  | 0, m, n, l, acc => .ok (acc, m, n, l)
  | u + 1, m, n, l, acc => match p m n l with
    | .error e => .error e
    | .ok (T, m', n', l') => elq p u m' n' l' (acc ++ [T])
def idOk (a c d : Int) : Bool := decide (1 ≤ a) && (decide (a ≤ 64) && (decide (1 ≤ c) && decide (1 ≤ d)))
/-- A part, behind its kind's byte; p: what reads its elements. -/
def knq (p : List Int → Nat → List ByteArray → Except Int (Tm × List Int × Nat × List ByteArray)) (k : Int) (m : List Int) (n : Nat) (l : List ByteArray) : Except Int (Tm × List Int × Nat × List ByteArray) :=
  if k = 1 then (match nmb 10 0 0 m with
    | .error e => .error e
    | .ok (u, m') => if inR (unf (u : Int)) = true then .ok (.mk { k := 1, n := unf (u : Int) } [] [], m', n, l) else .error 73)
  else if k = 2 then (if m.length < 16 then .error 72 else if (rp (be (m.take 8)) && rp (be ((m.drop 8).take 8))) = true then .ok (.mk { k := 2, x := be (m.take 8), y := be ((m.drop 8).take 8) } [] [], m.drop 16, n, l) else .error 73)
  else if k = 3 then (match nmq m l with
    | .error e => .error e
    | .ok (s, m', l') => .ok (.mk { k := 3, s := s } [] [], m', n, l'))
  else if k = 4 ∨ k = 5 then (match idq m with
    | .error e => .error e
    | .ok (c, t, u, m') => if idOk c (t : Int) (u : Int) = true then .ok (.mk { k := k, a := c, c := (t : Int), d := (u : Int) } [] [], m', n, l) else .error 73)
  else if k = 6 ∨ k = 7 then (match nmb 10 0 0 m with
    | .error e => .error e
    | .ok (u, m') => if 256 < u then .error 73 else match elq p u m' n l [] with
      | .error e => .error e
      | .ok (ts, m'', n'', l'') => .ok (.mk { k := k } [] ts, m'', n'', l''))
  else if k = 8 then (match rwq m n with
    | .error e => .error e
    | .ok (bs, m', n') => .ok (.mk { k := 8 } bs [], m', n', l))
  else .error 73
/-- A part; r: how much deeper parts may stand; n: the size so far. -/
def ptq : Nat → List Int → Nat → List ByteArray → Except Int (Tm × List Int × Nat × List ByteArray)
  | 0, _, _, _ => .error 20
  | r + 1, m, n, l => if 4096 ≤ n then .error 21 else match m with
    | [] => .error 72
    | k :: m => knq (ptq r) k m (n + 1) l
/-- A nest: its kind, how many elements it is to have, those that it has. -/
structure Ne where
  k : Int
  w : Nat
  ts : List Tm
/-- What comes of it when a part is done and these nests are open, the innermost first. -/
def fin7 : List Ne → Tm → List Int → Nat → List ByteArray → Except Int Tm
  | [], T, m, _, _ => if m = [] then .ok T else .error 74
  | e :: r, T, m, n, l => match elq (ptq (24 - (r.length + 1))) (e.w - (e.ts.length + 1)) m n l (e.ts ++ [T]) with
    | .error c => .error c
    | .ok (ts, m', n', l') => fin7 r (.mk { k := e.k } [] ts) m' n' l'
/-- What bytes are. -/
def decV (b : List Int) : Except Int Tm := if 131072 < b.length then .error 70 else match b with
  | [] => .error 72
  | c :: m => if c = 69 then (match ptq 24 m 0 [] with
    | .error e => .error e
    | .ok (T, m', n', l') => fin7 [] T m' n' l') else .error 71
end Go.Proofs.Ytmohehfkbhllpaa
