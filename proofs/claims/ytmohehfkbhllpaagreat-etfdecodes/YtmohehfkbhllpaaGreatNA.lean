/-
  Carried over from another seat of ours (NA).
  Carried over from another seat of ours (NB).
  Carried over from another seat of ours (NC).
  Carried over from another seat of ours (ND).
  Carried over from another seat of ours (NE).
-/
import Derived.Test.YtmohehfkbhllpaaGreatA
import Derived.Test.YtmohehfkbhllpaaGreatZ
import Derived.Test.YtmohehfkbhllpaaGreatProg
import Derived.WalkKit
import Derived.WalkLawsBesides
import Derived.ProofKit
import Derived.Deep.Light
import Derived.Lib.Strings
import Derived.Lib.Walk
import Derived.Lib.BufferWrite
import Derived.Lib.UnsafeStr
import Derived.Lib.Hide
import Derived.Laws.MakeOwn
import Derived.Maps.OwnSet
import Derived.Maps.OwnOps
import Derived.Maps.AppendAt
import Derived.WalkSpells
import Derived.RangeFuncBox
set_option linter.unusedVariables false
set_option linter.unusedSimpArgs false
namespace Go.Proofs.YtmohehfkbhllpaaGreat
open Go.RowKit

def oth (c : Int) : Bool := (decide (65 ≤ c) && decide (c ≤ 90)) || (decide (48 ≤ c) && decide (c ≤ 57)) || (c == 95)
def inNa (c : Int) : Bool := low c || oth c
def allN (s : ByteArray) (k : Nat) : Bool := (List.range k).all fun j => inNa (bt s j)
def isName (s : ByteArray) : Bool := decide (1 ≤ s.size) && decide (s.size ≤ 32) && low (bt s 0) && allN s s.size

theorem allN_succ (s : ByteArray) (k : Nat) : allN s (k + 1) = (allN s k && inNa (bt s k)) := by
  simp [allN, List.range_succ]
theorem allN_false (s : ByteArray) (k n : Nat) (hk : k < n) (h : inNa (bt s k) = false) : allN s n = false := by
  unfold allN
  rw [Bool.eq_false_iff]
  intro ha
  rw [List.all_eq_true] at ha
  have := ha k (List.mem_range.2 hk)
  rw [h] at this; cases this

theorem ix0 (s : ByteArray) (h : 0 < s.size) (w : World) : (Instr.index 9 (.string s) (.int .i64 0)).run Tryz.prog w = .ok (.int .u8 (bt s 0)) w := ix s 0 h w

theorem lower_c (c : Int) (w : World) : Calls Tryz.prog 108 #[.int .u8 c] w fun e w' => e = .returned (.bool (low c)) ∧ w = w' := by
  by_cases h1 : 97 ≤ c
  · by_cases h2 : c ≤ 122
    · have hl : low c = true := by simp [low, h1, h2]
      rw [hl]
      go_enter Tryz.func108, Tryz.ntmps108
      go_wp2
      go_ret
      exact ⟨rfl, rfl⟩
    · have hl : low c = false := by simp [low, h2]
      rw [hl]
      go_enter Tryz.func108, Tryz.ntmps108
      go_wp2
      go_ret
      exact ⟨rfl, rfl⟩
  · have hl : low c = false := by simp [low, h1]
    rw [hl]
    go_enter Tryz.func108, Tryz.ntmps108
    go_wp2
    go_ret
    exact ⟨rfl, rfl⟩

set_option maxHeartbeats 800000 in
theorem inName_c (c : Int) (w : World) : Calls Tryz.prog 109 #[.int .u8 c] w fun e w' => e = .returned (.bool (inNa c)) ∧ w = w' := by
  go_enter Tryz.func109, Tryz.ntmps109
  go_wp2_with (first | (go_at_call 108; refine (lower_c _ _).mono ?_; rintro e w' ⟨rfl, rfl⟩))
  all_goals (go_ret; refine ⟨congrArg (fun b => Ending.returned (Value.bool b)) ?_, rfl⟩; rw [Bool.eq_iff_iff]; simp [inNa, oth, low] at *; try omega)

set_option maxHeartbeats 1600000 in
theorem right_c (s : ByteArray) (w : World) : Calls Tryz.prog 97 #[.string s] w fun e w' => e = .returned (.bool (isName s)) ∧ w = w' := by
  by_cases h1 : 1 ≤ s.size
  · by_cases h2 : s.size ≤ 32
    · have h0 := ix0 s h1
      by_cases h3 : low (bt s 0) = true
      · go_enter Tryz.func97, Tryz.ntmps97
        go_wp2_with (first | (go_at_call 108; refine (lower_c _ _).mono ?_; rintro e w' ⟨rfl, rfl⟩))
        go_loop [20] (fun i => ∃ k : Nat, k ≤ s.size ∧ i = .int .i64 k ∧ allN s k = true) (fun i => s.size - (intOf i).toNat)
        case atStart => exact ⟨0, Nat.zero_le _, rfl, rfl⟩
        case round =>
          obtain ⟨k, hk, rfl, ha⟩ := hrel
          clear h0
          by_cases hlt : k < s.size
          · have hk0 := ix s k hlt
            go_wp2_with (first | (go_at_call 109; refine (inName_c _ _).mono ?_; rintro e w' ⟨rfl, rfl⟩))
            · have hf : inNa (bt s k) = false := by simpa using (by assumption : (!inNa (bt s k)) = true)
              go_ret
              have : isName s = false := by simp [isName, allN_false s k s.size hlt hf]
              exact ⟨by rw [this]; rfl, rfl⟩
            · have hf : inNa (bt s k) = true := by simpa using (by assumption : (!inNa (bt s k)) = false)
              go_round
              case rel => exact ⟨k + 1, by omega, by go_num, by rw [allN_succ, ha, hf]; rfl⟩
              case measure => simp [intOf]; omega
          · have : k = s.size := by omega
            subst this
            go_wp2
            go_ret
            have : isName s = true := by simp [isName, ha, h1, h2, h3]
            exact ⟨by rw [this]; rfl, rfl⟩
      · have hn : isName s = false := by simp [isName, h3]
        rw [hn]
        go_enter Tryz.func97, Tryz.ntmps97
        go_wp2_with (first | (go_at_call 108; refine (lower_c _ _).mono ?_; rintro e w' ⟨rfl, rfl⟩))
        go_ret
        exact ⟨rfl, rfl⟩
    · have hn : isName s = false := by simp [isName, h2]
      rw [hn]
      go_enter Tryz.func97, Tryz.ntmps97
      go_wp2
      go_ret
      exact ⟨rfl, rfl⟩
  · have hn : isName s = false := by simp [isName, h1]
    rw [hn]
    go_enter Tryz.func97, Tryz.ntmps97
    go_wp2
    go_ret
    exact ⟨rfl, rfl⟩

end Go.Proofs.YtmohehfkbhllpaaGreat



namespace Go.Proofs.YtmohehfkbhllpaaGreat
open Go.RowKit

theorem info5 : (Tryz.prog.info? 5).map (fun i => (i.zero, i.size, i.bytes)) = some (some (.int .u8 0), 1, 1) := by kernel_rfl

set_option maxHeartbeats 4000000 in
set_option maxRecDepth 100000 in
theorem clone0_c (s : ByteArray) (w : World) (h1 : 1 ≤ s.size) (h2 : s.size ≤ 32) :
    Calls Tryz.prog 116 #[.string s] w fun e w' => e = .returned (.string s) ∧ Below w.heap.size w w' := by
  obtain ⟨i0, hi, hz0, hz1, hz2⟩ := info_parts info5
  have hinfo : (Tryz.prog.info? 5).map (·.size) = some 1 := by rw [hi]; simp [hz1]
  have hco : Tryz.prog.cellsOf 5 = 1 := by simp [Program.cellsOf, hi, hz1]
  have h0 : ((s.size : Int) == 0) = false := beq_eq_false_iff_ne.2 (by omega)
  obtain ⟨M, hM⟩ : ∃ M, M = madeCells (Value.int .u8 0).cells (((s.size : Nat) : Int).toNat * i0.size) := ⟨_, rfl⟩
  have hMs : M.size = s.size := by rw [hM, size_madeCells, hz1]; simp
  have hmk : ∀ W : World, (Instr.makeSlice 22 (.int .i64 (s.size : Int)) (.int .i64 (s.size : Int))).run Tryz.prog W = .ok (.slice (some ⟨W.heap.size, 0, none⟩) s.size s.size) (W.alloc (.cells M 5)) := fun W => by
    have h := run_make (P := Tryz.prog) W 22 5 i0 (.int .u8 0) Tryz.underlying22 hi hz0 .i64 .i64 (s.size : Int) (s.size : Int) (by omega) (by omega) (by rw [hz2]; omega) (by omega)
    rw [← hM] at h
    simpa using h
  clear hM
  have hcp := Lib.run_copy_row_string (P := Tryz.prog) (w.alloc (.cells M 5)) 22 9 3 5 w.heap.size 0 s.size s.size s M 5 Tryz.underlying22 hinfo (heap_alloc_new w _) (Nat.le_refl _) (by omega)
  obtain ⟨Y, hY⟩ : ∃ Y, Y = (M.toList.take 0 ++ Lib.byteCells s.data.toList ++ M.toList.drop (0 + s.size)).toArray := ⟨_, rfl⟩
  rw [← hY] at hcp
  have hYl : Y.toList = Lib.byteCells s.data.toList := by
    rw [hY, List.toList_toArray, List.take_zero, List.nil_append, List.drop_of_length_le (by rw [Array.length_toList]; omega), List.append_nil]
  have hYs : Y.size = s.size := by rw [← Array.length_toList, hYl, Lib.byteCells_length, ← Lib.size_eq]
  have hgY : ((w.alloc (.cells M 5)).setRow w.heap.size Y).heap[w.heap.size]? = some (.cells Y 5 (0, 0)) := setRow_heap _ _ M _ 5 (0, 0) (heap_alloc_new w _)
  have hne : s.data.toList ≠ [] := by
    intro e
    have h3 : s.size = s.data.toList.length := Lib.size_eq s
    rw [e] at h3
    have h4 : s.size = 0 := h3
    omega
  have hUS := Lib.run_unsafeString_row (P := Tryz.prog) ((w.alloc (.cells M 5)).setRow w.heap.size Y) 147 3 9 5 Tryz.underlying147 hco w.heap.size Y.size (by unfold World.shape?; rw [hgY]) s.data.toList hne (by rw [← Lib.size_eq]; omega) (by rw [← Lib.size_eq]; omega)
    (fun j x hx => Lib.cells_of_row hgY Y.size j _ (by rw [List.take_of_length_le (by rw [Array.length_toList]; exact Nat.le_refl _), hYl]; simp [Lib.byteCells, hx]))
  rw [← Lib.size_eq] at hUS
  clear hY
  go_enter Tryz.func116, Tryz.ntmps116
  go_wp2
  go_ret
  have hb1 : Below w.heap.size w (w.alloc (.cells M 5)) := (Below.refl _ w).alloc (Nat.le_refl _) _
  have hb2 : Below w.heap.size (w.alloc (.cells M 5)) ((w.alloc (.cells M 5)).setRow w.heap.size Y) := ⟨rfl, rfl, rfl, by simp, fun k hk => setRow_other _ _ _ _ (by omega)⟩
  exact ⟨rfl, Lib.below_freeze (hb1.trans hb2) (p := ⟨w.heap.size, 0, none⟩) (Nat.le_refl _) _⟩

theorem clone_c (s : ByteArray) (w : World) (h1 : 1 ≤ s.size) (h2 : s.size ≤ 32) :
    Calls Tryz.prog 110 #[.string s] w fun e w' => e = .returned (.string s) ∧ Below w.heap.size w w' := by
  go_enter Tryz.func110, Tryz.ntmps110
  go_wp2_with (first | (go_at_call 116; refine (clone0_c s _ h1 h2).mono ?_; rintro e w' ⟨rfl, hb⟩))
  go_ret
  exact ⟨rfl, hb⟩
end Go.Proofs.YtmohehfkbhllpaaGreat



namespace Go.Proofs.YtmohehfkbhllpaaGreat
open Go.RowKit Go.Maps Go.WideMaps

/-! ### Names in a list -/
abbrev kOf (s : ByteArray) : Lit := .string s.data.toList
theorem kOf_ne {a b : ByteArray} (h : a ≠ b) : kOf a ≠ kOf b := fun e => h (by
  have h2 : a.data.toList = b.data.toList := by injection e
  exact ByteArray.ext (Array.toList_inj.1 h2))
/-- The first place, from n on, at which s stands. -/
def fnd : List ByteArray → ByteArray → Nat → Option Nat
  | [], _, _ => none
  | a :: r, s, n => if a = s then some n else fnd r s (n + 1)
theorem fnd_snoc (l : List ByteArray) (x s : ByteArray) : ∀ n, fnd (l ++ [x]) s n = (fnd l s n).or (if x = s then some (n + l.length) else none) := by
  induction l with
  | nil => intro n; simp [fnd]
  | cons a r ih =>
    intro n
    simp only [List.cons_append, fnd, ih, List.length_cons]
    by_cases h : a = s
    · simp [h]
    · simp only [h, if_false]; congr 2; rw [Nat.add_right_comm, Nat.add_assoc]
theorem fnd_none (l : List ByteArray) (s : ByteArray) : ∀ n, fnd l s n = none ↔ s ∉ l := by
  induction l with
  | nil => intro n; simp [fnd]
  | cons a r ih =>
    intro n
    by_cases h : a = s
    · simp [fnd, h]
    · simp [fnd, h, ih, Ne.symm h]
/-- The map d tells of each text just what the list l does. -/
def MapOk (d : DataW Unit) (l : List ByteArray) : Prop :=
  ∀ s, Maps.has d (kOf s) = (fnd l s 0).isSome ∧ d.atKey (kOf s) (.lit (.int .i64 0)) = .lit (.int .i64 (((fnd l s 0).getD 0 : Nat) : Int))
theorem mapOk_nil : MapOk (.map []) [] := fun _ => ⟨rfl, rfl⟩
theorem MapOk.snoc {d : DataW Unit} {l : List ByteArray} {x : ByteArray} (h : MapOk d l) (hm : IsMap d) (hx : x ∉ l) : MapOk (d.put (kOf x) (.lit (.int .i64 ((l.length : Nat) : Int)))) (l ++ [x]) := by
  intro s
  rw [fnd_snoc]
  by_cases e : x = s
  · subst e
    rw [(fnd_none l x 0).2 hx]
    exact ⟨by rw [has_put_same hm (show WideAt.IsKeyLit (kOf x) from trivial)]; simp, by rw [atKey_put_same hm (show WideAt.IsKeyLit (kOf x) from trivial)]; simp⟩
  · rw [has_put_other (kOf_ne (Ne.symm e)), atKey_put_other (kOf_ne (Ne.symm e))]
    simpa [e] using h s

/-- Names, each once, no more than 4096. -/
structure Good (l : List ByteArray) : Prop where
  nodup : l.Nodup
  name : ∀ s ∈ l, isName s = true
  len : l.length ≤ 4096
theorem good_nil : Good [] := ⟨List.nodup_nil, by simp, by simp⟩
theorem Good.snoc {l : List ByteArray} {x : ByteArray} (h : Good l) (hx : x ∉ l) (hn : isName x = true) (hl : l.length < 4096) : Good (l ++ [x]) :=
  ⟨by rw [List.nodup_append]; exact ⟨h.nodup, by simp, fun a ha b hb => by simp at hb; subst hb; exact fun e => hx (e ▸ ha)⟩,
   fun s hs => by rcases List.mem_append.1 hs with h1 | h1
                  · exact h.name s h1
                  · simp at h1; exact h1 ▸ hn, by simp; omega⟩
theorem isName_size {s : ByteArray} (h : isName s = true) : 1 ≤ s.size ∧ s.size ≤ 32 := by
  simp [isName] at h; exact ⟨h.1.1.1, h.1.1.2⟩

/-! ### Worlds -/
variable {S S' : Nat → Prop} {W W1 W' : World}
/-! ### The table -/
theorem two {W : World} {b : Nat} {x y : Value} {t : TypeId} (h : W.heap[b]? = some (.cells #[x, y] t (0, 0))) :
    W.cell? ⟨b, 0, none⟩ = some x ∧ W.cell? ⟨b, 1, none⟩ = some y ∧ W.frozen? ⟨b, 0, none⟩ = false ∧ W.frozen? ⟨b, 1, none⟩ = false := by
  simp [World.cell?, World.frozen?, h]

def Fp (b : Nat) (m : Option Nat) (sv : Value) (k : Nat) : Prop := k = b ∨ m = some k ∨ sv.ownBlock = some k

structure Tab (W : World) (b : Nat) (m : Option Nat) (sv : Value) (l : List ByteArray) : Prop where
  blk : W.heap[b]? = some (.cells #[.map m, sv] 65 (0, 0))
  row : W.ownsRow 0 9 1 sv l.length (l.map Value.string)
  map : (m = none ∧ l = []) ∨ ∃ mb d, m = some mb ∧ W.ownsMap Tryz.prog 9 (plainElem (H := Unit) Tryz.prog 3) mb l.length d ∧ MapOk d l
  good : Good l

theorem Tab.lt {b : Nat} {m : Option Nat} {sv : Value} {l : List ByteArray} (h : Tab W b m sv l) : ∀ k, Fp b m sv k → k < W.heap.size := by
  rintro k (rfl | rfl | e)
  · exact (Array.getElem?_eq_some_iff.1 h.blk).1
  · rcases h.map with ⟨e, _⟩ | ⟨mb, d, e, ho, _⟩
    · cases e
    · cases e; exact ho.lt
  · exact (h.row.lt k e).2

theorem ownsRow_of_blockA {W W' : World} {sv : Value} {n : Nat} {xs : List Value} (h : W.ownsRow 0 9 1 sv n xs) (hb : ∀ k, sv.ownBlock = some k → W'.heap[k]? = W.heap[k]?) : W'.ownsRow 0 9 1 sv n xs := by
  refine ⟨h.1, ?_⟩
  rcases h.2 with h0 | ⟨g, cap, cur, rfl, h1, h2, h3⟩
  · exact .inl h0
  · exact .inr ⟨g, cap, cur, rfl, h1, (hb g rfl).trans h2, h3⟩
theorem ownsMap_of_block {W W' : World} {mb n : Nat} {d : DataW Unit} (h : W.ownsMap Tryz.prog 9 (plainElem (H := Unit) Tryz.prog 3) mb n d) (hb : W'.heap[mb]? = W.heap[mb]?) : W'.ownsMap Tryz.prog 9 (plainElem (H := Unit) Tryz.prog 3) mb n d := by
  obtain ⟨es, clock, h1, h2⟩ := h
  exact ⟨es, clock, hb.trans h1, h2⟩

theorem Tab.kept {b : Nat} {m : Option Nat} {sv : Value} {l : List ByteArray} (h : Tab W b m sv l) (hk : ∀ k, Fp b m sv k → W'.heap[k]? = W.heap[k]?) : Tab W' b m sv l := by
  refine ⟨(hk b (.inl rfl)).trans h.blk, ownsRow_of_blockA h.row (fun k e => hk k (.inr (.inr e))), ?_, h.good⟩
  rcases h.map with h0 | ⟨mb, d, e, ho, hd⟩
  · exact .inl h0
  · exact .inr ⟨mb, d, e, ownsMap_of_block ho (hk mb (.inr (.inl e))), hd⟩
theorem Tab.gr {b : Nat} {m : Option Nat} {sv : Value} {l : List ByteArray} (h : Tab W b m sv l) (g : Gr S W W') (hd : ∀ k, Fp b m sv k → ¬ S k) : Tab W' b m sv l :=
  h.kept (fun k hk => g.block k (h.lt k hk) (hd k hk))
theorem Tab.ne {b : Nat} {m : Option Nat} {sv : Value} {l : List ByteArray} (h : Tab W b m sv l) : m ≠ some b ∧ sv.ownBlock ≠ some b ∧ (∀ k, m = some k → sv.ownBlock ≠ some k) := by
  refine ⟨fun e => ?_, fun e => ?_, fun k e e2 => ?_⟩
  · rcases h.map with ⟨e0, _⟩ | ⟨mb, d, e0, ⟨es, c, ho, _⟩, _⟩
    · rw [e0] at e; cases e
    · rw [e0] at e; cases e; rw [h.blk] at ho; cases ho
  · rcases h.row.2 with ⟨rfl, _⟩ | ⟨g, cap, cur, rfl, _, h2, _⟩
    · cases e
    · cases e; rw [h.blk] at h2; simp at h2
  · rcases h.map with ⟨e0, _⟩ | ⟨mb, d, e0, ⟨es, c, ho, _⟩, _⟩
    · rw [e0] at e; cases e
    · rw [e0] at e; cases e
      rcases h.row.2 with ⟨rfl, _⟩ | ⟨g, cap, cur, rfl, _, h2, _⟩
      · cases e2
      · cases e2; rw [ho] at h2; cases h2

/-! ### append of one name -/
theorem info9 : (Tryz.prog.info? 9).map (fun i => (i.zero, i.size, i.bytes)) = some (some (.string ⟨#[]⟩), 1, 16) := by kernel_rfl
theorem app_run (w : World) (ty : TypeId) (sv : Value) (l : List ByteArray) (x : ByteArray) (a : Addr) (hrow : w.ownsRow 0 9 1 sv l.length (l.map Value.string)) (hl : l.length ≤ 4096)
    (hx : ∀ j u, [Value.string x][j]? = some u → w.cell? (a.add j) = some u) :
    ∃ g cap w', (Builtin.append_ #[49, 49] ty #[sv, .slice (some a) 1 1]).run Tryz.prog w = .ok (.slice (some ⟨g, 0, none⟩) (l.length + 1) cap) w' ∧
      w'.ownsRow 0 9 1 (.slice (some ⟨g, 0, none⟩) (l.length + 1) cap) (l.length + 1) ((l ++ [x]).map Value.string) ∧
      ((sv.ownBlock = some g ∧ w.grownBy w' (some g)) ∨ (g = w.heap.size ∧ w.grownBy w' none)) := by
  obtain ⟨i0, hi, hz0, hz1, hz2⟩ := info_parts info9
  obtain ⟨v', w', hr, hown, hgrow, _, hloc⟩ := run_append_own_at (P := Tryz.prog) w 0 49 ty 9 i0 (.string ⟨#[]⟩) 1 16 Tryz.underlying49 hi hz0 hz1 hz2 rfl (by decide) sv l.length (l.map Value.string) hrow a 1 1 [.string x] rfl hx (by simp [Value.oneCell']) (by unfold maxLen; omega) (by omega) (Nat.zero_le _)
  have hm : (l ++ [x]).map Value.string = l.map Value.string ++ [Value.string x] := by simp
  rw [hm]
  obtain ⟨g, cap, rfl⟩ := ownsRow_succ hown
  refine ⟨g, cap, w', hr, hown, ?_⟩
  rcases hrow.2 with ⟨rfl, _⟩ | ⟨g0, cap0, cur, rfl, _, hg, _, _, hcs, _⟩
  · right
    rcases hloc with e | e
    · cases e
    · cases e; exact ⟨rfl, hgrow⟩
  · by_cases hroom : l.length + 1 ≤ cap0
    · have hr2 := run_append_room (P := Tryz.prog) w 49 ty 9 i0 Tryz.underlying49 hi g0 l.length cap0 cur hg a 1 1 [.string x] (by simp [hz1]) hx (by simp [Value.oneCell']) hroom (by rw [hz1, hcs]; simp; omega)
      rw [hr2] at hr
      have e1 := (Result.ok.inj hr).1
      injection e1 with e2
      cases e2
      exact .inl ⟨rfl, hgrow⟩
    · have hr2 := run_append_grow (P := Tryz.prog) w 49 ty 9 i0 (.string ⟨#[]⟩) Tryz.underlying49 hi hz0 ⟨g0, 0, none⟩ l.length cap0 (l.map Value.string) (by rw [hz1]; simp) (hrow.cells (g := g0) rfl) a 1 1 [.string x] (by simp [hz1]) hx (by omega) (by omega) (growslice_fits (by omega) (by rw [hz2]; omega))
      rw [hr2] at hr
      obtain ⟨e1, e2⟩ := Result.ok.inj hr
      injection e1 with e3
      cases e3
      refine .inr ⟨rfl, ?_⟩
      rw [← e2]
      exact ⟨rfl, rfl, rfl, by simp, fun k hk _ => heap_alloc_old w.drew _ hk⟩
theorem wpList_app (w : World) {ops : Array Oper} {rest : List Oper} {o : Oper} {a : Act} {Q : Exit → Act → World → Prop} (hgd : o.guard = none) (s x : Operand)
    (ho : o.op = .call { callee := .builtin .append, args := #[s, x], argTypes := #[49, 49] }) (sv : Value) (l : List ByteArray) (y : ByteArray) (ad : Addr) (hs : a.eval s = sv) (hx : a.eval x = .slice (some ad) 1 1)
    (hrow : w.ownsRow 0 9 1 sv l.length (l.map Value.string)) (hl : l.length ≤ 4096) (hnews : ∀ j u, [Value.string y][j]? = some u → w.cell? (ad.add j) = some u)
    (h : ∀ g cap w', w'.ownsRow 0 9 1 (.slice (some ⟨g, 0, none⟩) (l.length + 1) cap) (l.length + 1) ((l ++ [y]).map Value.string) →
      ((sv.ownBlock = some g ∧ w.grownBy w' (some g)) ∨ (g = w.heap.size ∧ w.grownBy w' none)) → wpList Tryz.prog ops Q rest (a.put o.dst (.slice (some ⟨g, 0, none⟩) (l.length + 1) cap)) w') :
    wpList Tryz.prog ops Q (o :: rest) a w := by
  refine wpList_plain hgd fun K hK => ?_
  obtain ⟨g, cap, w', hr, h2, h3⟩ := app_run w o.type sv l y ad hrow hl hnews
  unfold Oper.wp execOp
  simp only [ho, resolve, invoke, builtin, Sem.run_bind, Sem.run_pure, Result.andThen_ok, List.map_toArray, List.map_cons, List.map_nil, hs, hx, hr]
  exact hK _ _ (h g cap w' h2 h3)
end Go.Proofs.YtmohehfkbhllpaaGreat



namespace Go.Proofs.YtmohehfkbhllpaaGreat
open Go.RowKit Go.Maps Go.WideMaps

theorem law : Keyed Tryz.prog 9 := string_keyed Tryz.underlying9
theorem zero3 (w : World) : (zeroValue 3).run Tryz.prog w = .ok (.int .i64 0) w := by kernel_rfl
theorem eqMap (w : World) (r : Option Nat) : (binOp .eql 63 (.map r) (.map none)).run Tryz.prog w = .ok (.bool r.isNone) w := run_eql_map_nil w 63 9 3 r Tryz.underlying63

theorem new_c (w : World) : Calls Tryz.prog 12 #[] w fun e w' => e = .returned (pt w.heap.size) ∧ Tab w' w.heap.size none (.slice none 0 0) [] ∧ Gr (fun _ => False) w w' := by
  go_enter Tryz.func12, Tryz.ntmps12
  go_wp2
  go_ret
  exact ⟨rfl, ⟨heap_alloc_new w _, World.ownsRow_nil _ _ _ _, .inl ⟨rfl, rfl⟩, good_nil⟩, Gr.alloc w _ _⟩

theorem Tab.sv {W : World} {b : Nat} {m : Option Nat} {sv : Value} {l : List ByteArray} (h : Tab W b m sv l) : ∃ a cap, sv = .slice a l.length cap := by
  rcases h.row.2 with ⟨rfl, e⟩ | ⟨g, cap, cur, rfl, _⟩
  · rw [e]; exact ⟨_, _, rfl⟩
  · exact ⟨_, _, rfl⟩

/-- What add does with a table's names: the new one stands behind the others. -/
def Added (W W' : World) (b : Nat) (m : Option Nat) (sv : Value) (l : List ByteArray) : Prop :=
  ∃ m' sv', Tab W' b m' sv' l ∧ Gr (Fp b m sv) W W' ∧ (∀ k, Fp b m' sv' k → Fp b m sv k ∨ W.heap.size ≤ k) ∧ ∀ k, sv.ownBlock = some k → sv'.ownBlock = some k ∨ W'.heap[k]? = W.heap[k]?

theorem after_app {w2 w3 : World} {o : Obj} {sv : Value} {g : Nat} (hloc : (sv.ownBlock = some g ∧ (w2.alloc o).grownBy w3 (some g)) ∨ (g = (w2.alloc o).heap.size ∧ (w2.alloc o).grownBy w3 none)) :
    ∀ k, k < w2.heap.size → sv.ownBlock ≠ some k → w3.heap[k]? = w2.heap[k]? := by
  intro k hk hn
  rcases hloc with ⟨e, hg⟩ | ⟨e, hg⟩
  · exact (hg.block k (by simp; omega) (fun e2 => hn (by rw [e, e2]))).trans (heap_alloc_old w2 o hk)
  · exact (hg.block k (by simp; omega) (by simp)).trans (heap_alloc_old w2 o hk)

theorem add_done {W w1 w2 w3 : World} {b mb g cap' : Nat} {sv : Value} {l : List ByteArray} {s : ByteArray} {o : Obj} {d : DataW Unit} (h : Tab W b (some mb) sv l) (hs : isName s = true) (hn : s ∉ l) (hl : l.length < 4096)
    (hb1 : Below W.heap.size W w1) (hg2 : w1.grownBy w2 (some mb)) (hd : MapOk d l) (hdm : IsMap d)
    (ho2 : w2.ownsMap Tryz.prog 9 (plainElem (H := Unit) Tryz.prog 3) mb (l.length + 1) (d.put (kOf s) (.lit (.int .i64 (l.length : Int)))))
    (hr3 : w3.ownsRow 0 9 1 (.slice (some ⟨g, 0, none⟩) (l.length + 1) cap') (l.length + 1) ((l ++ [s]).map Value.string))
    (hloc : (sv.ownBlock = some g ∧ (w2.alloc o).grownBy w3 (some g)) ∨ (g = (w2.alloc o).heap.size ∧ (w2.alloc o).grownBy w3 none)) :
    Added W (w3.setCell ⟨b, 1, none⟩ (.slice (some ⟨g, 0, none⟩) (l.length + 1) cap')) b (some mb) sv (l ++ [s]) := by
  obtain ⟨n1, n2, n3⟩ := h.ne
  have hbb : b < W.heap.size := h.lt b (.inl rfl)
  have hmb : mb < W.heap.size := h.lt mb (.inr (.inl rfl))
  have hs1 := hb1.size
  have hs2 := hg2.size
  have hk3 := after_app hloc
  have hb3 : w3.heap[b]? = some (.cells #[.map (some mb), sv] 65 (0, 0)) :=
    (hk3 b (by omega) n2).trans ((hg2.block b (by omega) (fun e => n1 e.symm)).trans ((hb1.block b hbb).trans h.blk))
  have hgb : g ≠ b := by
    rcases hloc with ⟨e, _⟩ | ⟨e, _⟩
    · intro e2; exact n2 (e2 ▸ e)
    · simp at e; omega
  have hmg : mb ≠ b := fun e => n1 (by rw [e])
  have hg3 : Gr (fun k => sv.ownBlock = some k) w2 w3 := by
    refine (Gr.alloc w2 o _).trans ?_
    rcases hloc with ⟨e, hg⟩ | ⟨e, hg⟩
    · exact Gr.of_grown hg (fun k e2 => by cases e2; exact e)
    · exact Gr.of_grown hg (fun k e2 => by cases e2)
  refine ⟨some mb, .slice (some ⟨g, 0, none⟩) (l.length + 1) cap', ⟨heap_setCell_same w3 b 1 _ 65 _ hb3, ?_, .inr ⟨mb, _, rfl, ?_, hd.snoc hdm hn⟩, h.good.snoc hn hs hl⟩, ?_, ?_, ?_⟩
  · have := ownsRow_of_blockA (W' := w3.setCell ⟨b, 1, none⟩ (.slice (some ⟨g, 0, none⟩) (l.length + 1) cap')) hr3 (fun k e => by
      obtain rfl : g = k := by simpa [Value.ownBlock] using e
      exact heap_setCell_other w3 _ _ _ hgb)
    simpa using this
  · have := ownsMap_of_block (W' := w3.setCell ⟨b, 1, none⟩ (.slice (some ⟨g, 0, none⟩) (l.length + 1) cap')) ho2 ((heap_setCell_other w3 _ _ _ hmg).trans (hk3 mb (by omega) (n3 mb rfl)))
    simpa using this
  · refine (Gr.of_below hb1 _).trans ((Gr.of_grown hg2 (fun k e => .inr (.inl e))).trans ((hg3.mono (fun i _ e => .inr (.inr e))).trans (Gr.set _ _ _ (.inl rfl))))
  · rintro k (rfl | e | e)
    · exact .inl (.inl rfl)
    · exact .inl (.inr (.inl e))
    · obtain rfl : g = k := by simpa [Value.ownBlock] using e
      rcases hloc with ⟨e, _⟩ | ⟨e, _⟩
      · exact .inl (.inr (.inr e))
      · right; simp at e; omega
  · intro k hk
    have hkb : k ≠ b := fun e => n2 (by rw [hk, e])
    have hkW := h.lt k (.inr (.inr hk))
    rcases hloc with ⟨e, _⟩ | ⟨_, hg⟩
    · left; rw [hk] at e; cases e; rfl
    · right
      refine (heap_setCell_other w3 _ _ _ hkb).trans ((hg.block k (by simp; omega) (by simp)).trans ((heap_alloc_old w2 o (by omega)).trans ((hg2.block k (by omega) (fun e => ?_)).trans (hb1.block k hkW))))
      exact n3 mb rfl (by rw [hk]; exact e)

set_option maxHeartbeats 1600000 in
theorem add_some (W : World) (b mb : Nat) (sv : Value) (l : List ByteArray) (s : ByteArray) (h : Tab W b (some mb) sv l) (hs : isName s = true) (hn : s ∉ l) (hl : l.length < 4096) :
    Calls Tryz.prog 98 #[pt b, .string s] W fun e W' => e = .returned (.int .i64 (l.length : Int)) ∧ Added W W' b (some mb) sv (l ++ [s]) := by
  obtain ⟨hs1, hs2⟩ := isName_size hs
  obtain ⟨c0, c1, f0, f1⟩ := two h.blk
  have hq := eqMap
  obtain ⟨d, ho, hd⟩ : ∃ d, W.ownsMap Tryz.prog 9 (plainElem (H := Unit) Tryz.prog 3) mb l.length d ∧ MapOk d l := by
    rcases h.map with ⟨e, _⟩ | ⟨mb', d, e, ho, hd⟩
    · cases e
    · cases e; exact ⟨d, ho, hd⟩
  obtain ⟨a, cap, rfl⟩ := h.sv
  obtain ⟨n1, n2, n3⟩ := h.ne
  have hmb : mb < W.heap.size := ho.lt
  have hbb : b < W.heap.size := h.lt b (.inl rfl)
  have hll : (l.length : Int) ≤ 9223372036854775807 := by omega
  go_enter Tryz.func98, Tryz.ntmps98
  go_wp2_with (first
    | (go_at_call 110; refine (clone_c s _ hs1 hs2).mono ?_; rintro e w1 ⟨rfl, hb1⟩; have h1 : Tab w1 b (some mb) (.slice a l.length cap) l := h.gr (Gr.of_below hb1 (fun _ => False)) (fun _ _ e => e); have ho1 := ownsMap_of_block ho (hb1.block mb hmb); obtain ⟨c01, c11, f01, f11⟩ := two h1.blk)
    | (at_mapUpdate; refine wpList_mapUpdate_own _ rfl _ _ _ 63 rfl 9 3 law Tryz.underlying63 _ mb l.length _ rfl ho1 (by unfold maxLen; omega) _ _ _ rfl rfl (keyOf_string_mk Tryz.underlying9 (by unfold maxLen; omega)) _ [] (plainElem_int Tryz.underlying3 (WalkArith.wf_i64 (by omega))) ?_; intro w2 ho2 hg2; have hr2 : w2.ownsRow 0 9 1 (.slice a l.length cap) l.length (l.map Value.string) := ownsRow_of_blockA h1.row (fun k e => hg2.block k (h1.lt k (.inr (.inr e))) (fun e2 => n3 mb rfl (by rw [e, e2]))); have hb2 : w2.heap[b]? = some (.cells #[.map (some mb), .slice a l.length cap] 65 (0, 0)) := (hg2.block b (h1.lt b (.inl rfl)) (fun e => n1 e.symm)).trans h1.blk; obtain ⟨c02, c12, f02, f12⟩ := two hb2)
    | (at_builtin; refine wpList_app _ rfl _ _ rfl (.slice a l.length cap) l s ⟨w2.heap.size, 0, none⟩ rfl rfl (hr2.alloc _) (by omega) (cell_one_new _ _ _) ?_; intro g cap' w3 hr3 hloc; have hb3 := (after_app hloc b (Nat.lt_of_lt_of_le (h1.lt b (.inl rfl)) hg2.size) n2).trans hb2; obtain ⟨c03, c13, f03, f13⟩ := two hb3)
    | go_in)
  go_ret
  exact ⟨rfl, add_done h hs hn hl hb1 hg2 hd ho.isMap ho2 hr3 hloc⟩

theorem made_tab {W : World} {b : Nat} {sv : Value} (h : Tab W b none sv []) : Tab ((W.setCell ⟨b, 0, none⟩ (.map (some W.heap.size))).alloc (.map #[] 0)) b (some W.heap.size) sv [] := by
  obtain ⟨n1, n2, n3⟩ := h.ne
  have hbb : b < W.heap.size := h.lt b (.inl rfl)
  refine ⟨(heap_alloc_old _ _ (by simpa using hbb)).trans (heap_setCell_same W b 0 _ 65 _ h.blk), ?_, .inr ⟨_, .map [], rfl, ?_, mapOk_nil⟩, h.good⟩
  · refine ownsRow_of_blockA h.row (fun k e => (heap_alloc_old _ _ (by simpa using h.lt k (.inr (.inr e)))).trans (heap_setCell_other W _ _ _ (fun e2 => n2 (by rw [e, e2]))))
  · have := World.ownsMap_made (H := Unit) (W.setCell ⟨b, 0, none⟩ (.map (some W.heap.size))) Tryz.prog 9 (plainElem Tryz.prog 3)
    rwa [World.size_setCell] at this
theorem made_added {W W' : World} {b : Nat} {sv : Value} {l : List ByteArray} (h : Tab W b none sv []) (k : Added ((W.setCell ⟨b, 0, none⟩ (.map (some W.heap.size))).alloc (.map #[] 0)) W' b (some W.heap.size) sv l) : Added W W' b none sv l := by
  obtain ⟨m', sv', ht, hg, hf, hk⟩ := k
  refine ⟨m', sv', ht, ?_, ?_, ?_⟩
  · refine ((Gr.set W ⟨b, 0, none⟩ _ (.inl rfl)).trans (Gr.alloc _ _ _)).trans' hg (fun i hi => ?_)
    rintro (e | e | e)
    · exact .inl e
    · cases e; omega
    · exact .inr (.inr e)
  · intro i hi
    rcases hf i hi with (e | e | e) | e
    · exact .inl (.inl e)
    · cases e; exact .inr (Nat.le_refl _)
    · exact .inl (.inr (.inr e))
    · right; simp at e; omega
  · intro i hi
    rcases hk i hi with e | e
    · exact .inl e
    · exact .inr (e.trans ((heap_alloc_old _ _ (by simpa using h.lt i (.inr (.inr hi)))).trans (heap_setCell_other W _ _ _ (fun e2 => h.ne.2.1 (by rw [hi, e2])))))

set_option maxHeartbeats 1600000 in
theorem add_none (W : World) (b : Nat) (sv : Value) (s : ByteArray) (h : Tab W b none sv []) (hs : isName s = true) :
    Calls Tryz.prog 98 #[pt b, .string s] W fun e W' => e = .returned (.int .i64 0) ∧ Added W W' b none sv [s] := by
  obtain ⟨hs1, hs2⟩ := isName_size hs
  obtain ⟨c0, c1, f0, f1⟩ := two h.blk
  have hq := eqMap
  have hmm := @run_makeMap Tryz.prog
  obtain ⟨a, cap, rfl⟩ := h.sv
  have hbb : b < W.heap.size := h.lt b (.inl rfl)
  obtain ⟨W0, hW0⟩ : ∃ W0, (W.setCell ⟨b, 0, none⟩ (.map (some W.heap.size))).alloc (.map #[] 0) = W0 := ⟨_, rfl⟩
  have h0 := made_tab h
  have hfin := @made_added W
  rw [hW0] at h0
  obtain ⟨n1, n2, n3⟩ := h0.ne
  have hmb : W.heap.size < W0.heap.size := by rw [← hW0]; simp
  have ho0 : W0.ownsMap Tryz.prog 9 (plainElem (H := Unit) Tryz.prog 3) W.heap.size 0 (.map []) := by
    rw [← hW0]
    have := World.ownsMap_made (H := Unit) (W.setCell ⟨b, 0, none⟩ (.map (some W.heap.size))) Tryz.prog 9 (plainElem Tryz.prog 3)
    rwa [World.size_setCell] at this
  go_enter Tryz.func98, Tryz.ntmps98
  go_wp2_with (first
    | (go_at_call 110; (try rw [hW0]); refine (clone_c s _ hs1 hs2).mono ?_; rintro e w1 ⟨rfl, hb1⟩; have h1 : Tab w1 b (some W.heap.size) (.slice a 0 cap) [] := h0.gr (Gr.of_below hb1 (fun _ => False)) (fun _ _ e => e); have ho1 := ownsMap_of_block ho0 (hb1.block _ hmb); obtain ⟨c01, c11, f01, f11⟩ := two h1.blk)
    | (at_mapUpdate; refine wpList_mapUpdate_own _ rfl _ _ _ 63 rfl 9 3 law Tryz.underlying63 _ W.heap.size 0 _ rfl ho1 (by unfold maxLen; omega) _ _ _ rfl rfl (keyOf_string_mk Tryz.underlying9 (by unfold maxLen; omega)) _ [] (plainElem_int Tryz.underlying3 (a := 0) (by decide)) ?_; intro w2 ho2 hg2; have hr2 : w2.ownsRow 0 9 1 (.slice a 0 cap) ([] : List ByteArray).length (([] : List ByteArray).map Value.string) := ownsRow_of_blockA h1.row (fun k e => hg2.block k (h1.lt k (.inr (.inr e))) (fun e2 => n3 _ rfl (e.trans e2))); have hb2 : w2.heap[b]? = some (.cells #[.map (some W.heap.size), .slice a 0 cap] 65 (0, 0)) := (hg2.block b (h1.lt b (.inl rfl)) (fun e => n1 e.symm)).trans h1.blk; obtain ⟨c02, c12, f02, f12⟩ := two hb2)
    | (at_builtin; refine wpList_app _ rfl _ _ rfl (.slice a 0 cap) [] s ⟨w2.heap.size, 0, none⟩ rfl rfl (hr2.alloc _) (by simp) (cell_one_new _ _ _) ?_; intro g cap' w3 hr3 hloc; have hb3 := (after_app hloc b (Nat.lt_of_lt_of_le (h1.lt b (.inl rfl)) hg2.size) n2).trans hb2; obtain ⟨c03, c13, f03, f13⟩ := two hb3)
    | go_in)
  go_ret
  refine ⟨rfl, hfin h ?_⟩
  rw [hW0]
  exact add_done h0 hs (by simp) (by simp) hb1 hg2 mapOk_nil isMap_empty ho2 hr3 hloc

/-- add at any table. -/
theorem add_c (W : World) (b : Nat) (m : Option Nat) (sv : Value) (l : List ByteArray) (s : ByteArray) (h : Tab W b m sv l) (hs : isName s = true) (hn : s ∉ l) (hl : l.length < 4096) :
    Calls Tryz.prog 98 #[pt b, .string s] W fun e W' => e = .returned (.int .i64 (l.length : Int)) ∧ Added W W' b m sv (l ++ [s]) := by
  rcases h.map with ⟨rfl, rfl⟩ | ⟨mb, d, rfl, _, _⟩
  · exact add_none W b sv s h hs
  · exact add_some W b mb sv l s h hs hn hl
end Go.Proofs.YtmohehfkbhllpaaGreat



namespace Go.Proofs.YtmohehfkbhllpaaGreat
open Go.RowKit Go.Maps Go.WideMaps

set_option maxRecDepth 20000 in
theorem Tab.look {W : World} {b : Nat} {m : Option Nat} {sv : Value} {l : List ByteArray} (h : Tab W b m sv l) (s : ByteArray) (hs : s.size ≤ maxLen) :
    (Instr.lookup 63 (.map m) (.string s) true).run Tryz.prog W = .ok (.tuple #[.int .i64 (((fnd l s 0).getD 0 : Nat) : Int), .bool (fnd l s 0).isSome]) W := by
  have hk := keyOf_string_mk Tryz.underlying9 hs
  rcases h.map with ⟨rfl, rfl⟩ | ⟨mb, d, rfl, ho, hd⟩
  · exact Maps.look_nil true law Tryz.underlying63 (zero3 W) hk
  · obtain ⟨v, ps, hrun, hv⟩ := ho.look_ok law Tryz.underlying63 (zero3 W) (plainElem_int Tryz.underlying3 (a := 0) (by decide)) hk
    obtain ⟨c, rfl, hc, _⟩ := plainElem_int_inv Tryz.underlying3 hv
    have h1 := (hd s).1
    have h2 := (hd s).2
    have hc1 := congrArg Prod.fst hc
    rw [hrun]
    have e1 : Maps.has d (Lit.string s.data.toList) = (fnd l s 0).isSome := h1
    have e2 : c = (((fnd l s 0).getD 0 : Nat) : Int) := by
      have : (DataW.lit (.int .i64 c) : DataW Unit) = .lit (.int .i64 (((fnd l s 0).getD 0 : Nat) : Int)) := hc1.symm.trans h2
      injection this with h3
      injection h3
    rw [e1, e2]

def putN (l : List ByteArray) (s : ByteArray) : Int := if isName s = true then (match fnd l s 0 with | some k => (k : Int) | none => if 4096 ≤ l.length then 0 else (l.length : Int)) else 0
def putE (l : List ByteArray) (s : ByteArray) : Int := if isName s = true then (match fnd l s 0 with | some _ => 0 | none => if 4096 ≤ l.length then 31 else 0) else 30
def putL (l : List ByteArray) (s : ByteArray) : List ByteArray := if isName s = true then (match fnd l s 0 with | some _ => l | none => if 4096 ≤ l.length then l else l ++ [s]) else l

theorem Added.refl {W : World} {b : Nat} {m : Option Nat} {sv : Value} {l : List ByteArray} (h : Tab W b m sv l) : Added W W b m sv l := ⟨m, sv, h, Gr.refl _ _, fun _ e => .inl e, fun _ e => .inl e⟩

set_option maxRecDepth 20000 in
set_option maxHeartbeats 1600000 in
theorem put_c (W : World) (b : Nat) (m : Option Nat) (sv : Value) (l : List ByteArray) (s : ByteArray) (h : Tab W b m sv l) :
    Calls Tryz.prog 80 #[pt b, .string s] W fun e W' => e = .returned (.tuple #[.int .i64 (putN l s), .int .i64 (putE l s)]) ∧ Added W W' b m sv (putL l s) := by
  obtain ⟨c0, c1, f0, f1⟩ := two h.blk
  obtain ⟨a, cap, rfl⟩ := h.sv
  by_cases hs : isName s = true
  · have hk := h.look s (by have := (isName_size hs).2; unfold maxLen; omega)
    have hr : (!isName s) = false := by simp [hs]
    rcases hf : fnd l s 0 with _ | k
    · rw [hf] at hk
      by_cases hl : 4096 ≤ l.length
      · rw [show putN l s = 0 by simp [putN, hs, hf, hl], show putE l s = 31 by simp [putE, hs, hf, hl], show putL l s = l by simp [putL, hs, hf, hl]]
        go_enter Tryz.func80, Tryz.ntmps80
        go_wp2_with (first | (go_at_call 97; refine (right_c s _).mono ?_; rintro e w1 ⟨rfl, rfl⟩))
        go_ret2
        exact ⟨rfl, .refl h⟩
      · rw [show putN l s = (l.length : Int) by simp [putN, hs, hf, hl], show putE l s = 0 by simp [putE, hs, hf, hl], show putL l s = l ++ [s] by simp [putL, hs, hf, hl]]
        have hn : s ∉ l := (fnd_none l s 0).1 hf
        have hl2 : l.length < 4096 := by omega
        go_enter Tryz.func80, Tryz.ntmps80
        go_wp2_with (first | (go_at_call 97; refine (right_c s _).mono ?_; rintro e w1 ⟨rfl, rfl⟩) | (go_at_call 98; refine (add_c W b m _ l s h hs hn hl2).mono ?_; rintro e w1 ⟨rfl, ha⟩))
        go_ret2
        exact ⟨rfl, ha⟩
    · rw [hf] at hk
      rw [show putN l s = (k : Int) by simp [putN, hs, hf], show putE l s = 0 by simp [putE, hs, hf], show putL l s = l by simp [putL, hs, hf]]
      go_enter Tryz.func80, Tryz.ntmps80
      go_wp2_with (first | (go_at_call 97; refine (right_c s _).mono ?_; rintro e w1 ⟨rfl, rfl⟩))
      go_ret2
      exact ⟨rfl, .refl h⟩
  · have hr : isName s = false := by simpa using hs
    rw [show putN l s = 0 by simp [putN, hs], show putE l s = 30 by simp [putE, hs], show putL l s = l by simp [putL, hs]]
    go_enter Tryz.func80, Tryz.ntmps80
    go_wp2_with (first | (go_at_call 97; refine (right_c s _).mono ?_; rintro e w1 ⟨rfl, rfl⟩))
    go_ret2
    exact ⟨rfl, .refl h⟩

theorem find_c (W : World) (b : Nat) (m : Option Nat) (sv : Value) (l : List ByteArray) (s : ByteArray) (h : Tab W b m sv l) (hs : s.size ≤ maxLen) :
    Calls Tryz.prog 81 #[pt b, .string s] W fun e W' => e = .returned (.tuple #[.int .i64 (((fnd l s 0).getD 0 : Nat) : Int), .bool (fnd l s 0).isSome]) ∧ W = W' := by
  obtain ⟨c0, c1, f0, f1⟩ := two h.blk
  have hk := h.look s hs
  go_enter Tryz.func81, Tryz.ntmps81
  go_wp2
  go_ret2
  exact ⟨rfl, rfl⟩

def nameS (l : List ByteArray) (n : Int) : ByteArray := if 0 ≤ n ∧ n < l.length then l.getD n.toNat ⟨#[]⟩ else ⟨#[]⟩
def nameE (l : List ByteArray) (n : Int) : Int := if 0 ≤ n ∧ n < l.length then 0 else 32
theorem Tab.at {W : World} {b g cap : Nat} {m : Option Nat} {l : List ByteArray} (h : Tab W b m (.slice (some ⟨g, 0, none⟩) l.length cap) l) (k : Nat) (hk : k < l.length) : W.cell? ⟨g, k, none⟩ = some (.string (l.getD k ⟨#[]⟩)) := by
  have := h.row.cellAt (g := g) k (by omega)
  rw [this]
  simp [hk]

set_option maxHeartbeats 800000 in
theorem nameC (W : World) (b : Nat) (m : Option Nat) (sv : Value) (l : List ByteArray) (n : Int) (h : Tab W b m sv l) :
    Calls Tryz.prog 52 #[pt b, .int .i64 n] W fun e W' => e = .returned (.tuple #[.string (nameS l n), .int .i64 (nameE l n)]) ∧ W = W' := by
  obtain ⟨c0, c1, f0, f1⟩ := two h.blk
  by_cases h0 : 0 ≤ n
  · by_cases h1 : n < l.length
    · obtain ⟨k, rfl⟩ : ∃ k : Nat, n = k := ⟨n.toNat, by omega⟩
      have hk : k < l.length := by omega
      rw [show nameS l k = l.getD k ⟨#[]⟩ by simp [nameS, hk], show nameE l k = 0 by simp [nameE, hk]]
      rcases h.row.2 with ⟨rfl, e⟩ | ⟨g, cap, cur, rfl, _, _, hcap, _⟩
      · omega
      · have hc := h.at k hk
        generalize l.getD k ⟨#[]⟩ = x at hc ⊢
        go_enter Tryz.func52, Tryz.ntmps52
        go_wp2
        go_ret2
        exact ⟨rfl, rfl⟩
    · rw [show nameS l n = ⟨#[]⟩ by simp [nameS, h1], show nameE l n = 32 by simp [nameE, h1]]
      obtain ⟨a, cap, rfl⟩ := h.sv
      go_enter Tryz.func52, Tryz.ntmps52
      go_wp2
      go_ret2
      exact ⟨rfl, rfl⟩
  · rw [show nameS l n = ⟨#[]⟩ by simp [nameS, h0], show nameE l n = 32 by simp [nameE, h0]]
    obtain ⟨a, cap, rfl⟩ := h.sv
    go_enter Tryz.func52, Tryz.ntmps52
    go_wp2
    go_ret2
    exact ⟨rfl, rfl⟩

theorem len_c (W : World) (b : Nat) (m : Option Nat) (sv : Value) (l : List ByteArray) (h : Tab W b m sv l) :
    Calls Tryz.prog 50 #[pt b] W fun e W' => e = .returned (.int .i64 (l.length : Int)) ∧ W = W' := by
  obtain ⟨c0, c1, f0, f1⟩ := two h.blk
  obtain ⟨a, cap, rfl⟩ := h.sv
  go_enter Tryz.func50, Tryz.ntmps50
  go_wp2
  go_ret
  exact ⟨rfl, rfl⟩

end Go.Proofs.YtmohehfkbhllpaaGreat


