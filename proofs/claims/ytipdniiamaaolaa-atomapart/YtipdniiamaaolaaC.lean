/-
  A table of names in memory: which blocks it is made of, what its map reads as, and what a call that writes to it leaves as it was.
-/
import Derived.Test.YtipdniiamaaolaaB
import Derived.Maps.OwnSet
import Derived.Maps.OwnOps
import Derived.Maps.AppendAt
import Derived.WalkSpells
import Derived.RangeFuncBox
namespace Go.Proofs.Ytipdniiamaaolaa
open Go.RowKit Go.Maps Go.WideMaps

/-! ### Names in a list -/
abbrev kOf (s : ByteArray) : Lit := .string s.data.toList
theorem kOf_ne {a b : ByteArray} (h : a ≠ b) : kOf a ≠ kOf b := fun e => h (by
  have h2 : a.data.toList = b.data.toList := by injection e
  exact ByteArray.ext (Array.toList_inj.1 h2))
/-- The first place, from n on, at which s stands. -/
def fnd : List ByteArray → ByteArray → Nat → Option Nat
  | [], _, _ => none
  | a :: r, s, n => if a = s then some n else fnd r s (n + 1)
theorem fnd_snoc (l : List ByteArray) (x s : ByteArray) : ∀ n, fnd (l ++ [x]) s n = (fnd l s n).or (if x = s then some (n + l.length) else none) := by
  induction l with
  | nil => intro n; simp [fnd]
  | cons a r ih =>
    intro n
    simp only [List.cons_append, fnd, ih, List.length_cons]
    by_cases h : a = s
    · simp [h]
    · simp only [h, if_false]; congr 2; rw [Nat.add_right_comm, Nat.add_assoc]
theorem fnd_none (l : List ByteArray) (s : ByteArray) : ∀ n, fnd l s n = none ↔ s ∉ l := by
  induction l with
  | nil => intro n; simp [fnd]
  | cons a r ih =>
    intro n
    by_cases h : a = s
    · simp [fnd, h]
    · simp [fnd, h, ih, Ne.symm h]
theorem fnd_some (l : List ByteArray) (s : ByteArray) : ∀ n k, fnd l s n = some k → n ≤ k ∧ k < n + l.length ∧ l[k - n]? = some s := by
  induction l with
  | nil => intro n k h; simp [fnd] at h
  | cons a r ih =>
    intro n k h
    by_cases e : a = s
    · simp [fnd, e] at h; subst h; simp [e]
    · simp only [fnd, e, if_false] at h
      obtain ⟨h1, h2, h3⟩ := ih _ _ h
      refine ⟨by omega, by simp; omega, ?_⟩
      rw [show k - n = (k - (n + 1)) + 1 by omega]; simpa using h3

/-- The map d tells of each text just what the list l does. -/
def MapOk (d : DataW Unit) (l : List ByteArray) : Prop :=
  ∀ s, Maps.has d (kOf s) = (fnd l s 0).isSome ∧ d.atKey (kOf s) (.lit (.int .i64 0)) = .lit (.int .i64 (((fnd l s 0).getD 0 : Nat) : Int))
theorem mapOk_nil : MapOk (.map []) [] := fun _ => ⟨rfl, rfl⟩
theorem MapOk.snoc {d : DataW Unit} {l : List ByteArray} {x : ByteArray} (h : MapOk d l) (hm : IsMap d) (hx : x ∉ l) : MapOk (d.put (kOf x) (.lit (.int .i64 ((l.length : Nat) : Int)))) (l ++ [x]) := by
  intro s
  rw [fnd_snoc]
  by_cases e : x = s
  · subst e
    rw [(fnd_none l x 0).2 hx]
    exact ⟨by rw [has_put_same hm (show WideAt.IsKeyLit (kOf x) from trivial)]; simp, by rw [atKey_put_same hm (show WideAt.IsKeyLit (kOf x) from trivial)]; simp⟩
  · rw [has_put_other (kOf_ne (Ne.symm e)), atKey_put_other (kOf_ne (Ne.symm e))]
    simpa [e] using h s

/-- Names, each once, no more than 4096. -/
structure Good (l : List ByteArray) : Prop where
  nodup : l.Nodup
  name : ∀ s ∈ l, isName s = true
  len : l.length ≤ 4096
theorem good_nil : Good [] := ⟨List.nodup_nil, by simp, by simp⟩
theorem Good.snoc {l : List ByteArray} {x : ByteArray} (h : Good l) (hx : x ∉ l) (hn : isName x = true) (hl : l.length < 4096) : Good (l ++ [x]) :=
  ⟨by rw [List.nodup_append]; exact ⟨h.nodup, by simp, fun a ha b hb => by simp at hb; subst hb; exact fun e => hx (e ▸ ha)⟩,
   fun s hs => by rcases List.mem_append.1 hs with h1 | h1
                  · exact h.name s h1
                  · simp at h1; exact h1 ▸ hn, by simp; omega⟩
theorem isName_size {s : ByteArray} (h : isName s = true) : 1 ≤ s.size ∧ s.size ≤ 32 := by
  simp [isName] at h; exact ⟨h.1.1.1, h.1.1.2⟩

/-! ### Worlds -/
/-- From W to W' only blocks of S and new ones have turned. -/
structure Gr (S : Nat → Prop) (W W' : World) : Prop where
  os : W'.os = W.os
  tape : W'.tape = W.tape
  output : W'.output = W.output
  size : W.heap.size ≤ W'.heap.size
  block : ∀ k, k < W.heap.size → ¬ S k → W'.heap[k]? = W.heap[k]?
variable {S S' : Nat → Prop} {W W1 W' : World}
theorem Gr.refl (S : Nat → Prop) (W : World) : Gr S W W := ⟨rfl, rfl, rfl, Nat.le_refl _, fun _ _ _ => rfl⟩
theorem Gr.trans' (h : Gr S W W1) (k : Gr S' W1 W') (hs : ∀ i, i < W.heap.size → S' i → S i) : Gr S W W' :=
  ⟨k.os.trans h.os, k.tape.trans h.tape, k.output.trans h.output, Nat.le_trans h.size k.size,
   fun i hi hn => (k.block i (Nat.lt_of_lt_of_le hi h.size) (fun e => hn (hs i hi e))).trans (h.block i hi hn)⟩
theorem Gr.trans (h : Gr S W W1) (k : Gr S W1 W') : Gr S W W' := h.trans' k (fun _ _ e => e)
theorem Gr.mono (h : Gr S W W') (hs : ∀ i, i < W.heap.size → S i → S' i) : Gr S' W W' :=
  ⟨h.os, h.tape, h.output, h.size, fun i hi hn => h.block i hi (fun e => hn (hs i hi e))⟩
theorem Gr.of_below (h : Below W.heap.size W W') (S : Nat → Prop) : Gr S W W' := ⟨h.os, h.tape, h.output, h.size, fun k hk _ => h.block k hk⟩
theorem Gr.of_grown {row : Option Nat} (h : W.grownBy W' row) (hr : ∀ k, row = some k → S k) : Gr S W W' :=
  ⟨h.os, h.tape, h.output, h.size, fun k hk hn => h.block k hk (fun e => hn (hr k e.symm))⟩
theorem Gr.alloc (W : World) (o : Obj) (S : Nat → Prop) : Gr S W (W.alloc o) := .of_below ((Below.refl _ W).alloc (Nat.le_refl _) o) S
theorem Gr.set (W : World) (p : Addr) (v : Value) (h : S p.block) : Gr S W (W.setCell p v) :=
  ⟨rfl, rfl, rfl, by simp, fun k _ hn => heap_setCell_other W p k v (fun e => hn (e ▸ h))⟩
theorem Gr.drew (W : World) (S : Nat → Prop) : Gr S W W.drew := .of_below ((Below.refl _ W).drew) S
theorem Gr.below (h : Gr S W W') {N : Nat} (hN : N ≤ W.heap.size) (hs : ∀ i, S i → N ≤ i) : Below N W W' :=
  ⟨h.os, h.tape, h.output, h.size, fun k hk => h.block k (by omega) (fun e => by have := hs k e; omega)⟩

/-! ### The table -/
theorem two {W : World} {b : Nat} {x y : Value} {t : TypeId} (h : W.heap[b]? = some (.cells #[x, y] t (0, 0))) :
    W.cell? ⟨b, 0, none⟩ = some x ∧ W.cell? ⟨b, 1, none⟩ = some y ∧ W.frozen? ⟨b, 0, none⟩ = false ∧ W.frozen? ⟨b, 1, none⟩ = false := by
  simp [World.cell?, World.frozen?, h]

def Fp (b : Nat) (m : Option Nat) (sv : Value) (k : Nat) : Prop := k = b ∨ m = some k ∨ sv.ownBlock = some k

structure Tab (W : World) (b : Nat) (m : Option Nat) (sv : Value) (l : List ByteArray) : Prop where
  blk : W.heap[b]? = some (.cells #[.map m, sv] 54 (0, 0))
  row : W.ownsRow 0 9 1 sv l.length (l.map Value.string)
  map : (m = none ∧ l = []) ∨ ∃ mb d, m = some mb ∧ W.ownsMap Try.prog 9 (plainElem (H := Unit) Try.prog 3) mb l.length d ∧ MapOk d l
  good : Good l

theorem Tab.lt {b : Nat} {m : Option Nat} {sv : Value} {l : List ByteArray} (h : Tab W b m sv l) : ∀ k, Fp b m sv k → k < W.heap.size := by
  rintro k (rfl | rfl | e)
  · exact (Array.getElem?_eq_some_iff.1 h.blk).1
  · rcases h.map with ⟨e, _⟩ | ⟨mb, d, e, ho, _⟩
    · cases e
    · cases e; exact ho.lt
  · exact (h.row.lt k e).2

theorem ownsRow_of_block {W W' : World} {sv : Value} {n : Nat} {xs : List Value} (h : W.ownsRow 0 9 1 sv n xs) (hb : ∀ k, sv.ownBlock = some k → W'.heap[k]? = W.heap[k]?) : W'.ownsRow 0 9 1 sv n xs := by
  refine ⟨h.1, ?_⟩
  rcases h.2 with h0 | ⟨g, cap, cur, rfl, h1, h2, h3⟩
  · exact .inl h0
  · exact .inr ⟨g, cap, cur, rfl, h1, (hb g rfl).trans h2, h3⟩
theorem ownsMap_of_block {W W' : World} {mb n : Nat} {d : DataW Unit} (h : W.ownsMap Try.prog 9 (plainElem (H := Unit) Try.prog 3) mb n d) (hb : W'.heap[mb]? = W.heap[mb]?) : W'.ownsMap Try.prog 9 (plainElem (H := Unit) Try.prog 3) mb n d := by
  obtain ⟨es, clock, h1, h2⟩ := h
  exact ⟨es, clock, hb.trans h1, h2⟩

theorem Tab.kept {b : Nat} {m : Option Nat} {sv : Value} {l : List ByteArray} (h : Tab W b m sv l) (hk : ∀ k, Fp b m sv k → W'.heap[k]? = W.heap[k]?) : Tab W' b m sv l := by
  refine ⟨(hk b (.inl rfl)).trans h.blk, ownsRow_of_block h.row (fun k e => hk k (.inr (.inr e))), ?_, h.good⟩
  rcases h.map with h0 | ⟨mb, d, e, ho, hd⟩
  · exact .inl h0
  · exact .inr ⟨mb, d, e, ownsMap_of_block ho (hk mb (.inr (.inl e))), hd⟩
theorem Tab.gr {b : Nat} {m : Option Nat} {sv : Value} {l : List ByteArray} (h : Tab W b m sv l) (g : Gr S W W') (hd : ∀ k, Fp b m sv k → ¬ S k) : Tab W' b m sv l :=
  h.kept (fun k hk => g.block k (h.lt k hk) (hd k hk))
theorem Tab.ne {b : Nat} {m : Option Nat} {sv : Value} {l : List ByteArray} (h : Tab W b m sv l) : m ≠ some b ∧ sv.ownBlock ≠ some b ∧ (∀ k, m = some k → sv.ownBlock ≠ some k) := by
  refine ⟨fun e => ?_, fun e => ?_, fun k e e2 => ?_⟩
  · rcases h.map with ⟨e0, _⟩ | ⟨mb, d, e0, ⟨es, c, ho, _⟩, _⟩
    · rw [e0] at e; cases e
    · rw [e0] at e; cases e; rw [h.blk] at ho; cases ho
  · rcases h.row.2 with ⟨rfl, _⟩ | ⟨g, cap, cur, rfl, _, h2, _⟩
    · cases e
    · cases e; rw [h.blk] at h2; simp at h2
  · rcases h.map with ⟨e0, _⟩ | ⟨mb, d, e0, ⟨es, c, ho, _⟩, _⟩
    · rw [e0] at e; cases e
    · rw [e0] at e; cases e
      rcases h.row.2 with ⟨rfl, _⟩ | ⟨g, cap, cur, rfl, _, h2, _⟩
      · cases e2
      · cases e2; rw [ho] at h2; cases h2

/-! ### append of one name -/
theorem info9 : (Try.prog.info? 9).map (fun i => (i.zero, i.size, i.bytes)) = some (some (.string ⟨#[]⟩), 1, 16) := by kernel_rfl
theorem app_run (w : World) (ty : TypeId) (sv : Value) (l : List ByteArray) (x : ByteArray) (a : Addr) (hrow : w.ownsRow 0 9 1 sv l.length (l.map Value.string)) (hl : l.length ≤ 4096)
    (hx : ∀ j u, [Value.string x][j]? = some u → w.cell? (a.add j) = some u) :
    ∃ g cap w', (Builtin.append_ #[27, 27] ty #[sv, .slice (some a) 1 1]).run Try.prog w = .ok (.slice (some ⟨g, 0, none⟩) (l.length + 1) cap) w' ∧
      w'.ownsRow 0 9 1 (.slice (some ⟨g, 0, none⟩) (l.length + 1) cap) (l.length + 1) ((l ++ [x]).map Value.string) ∧
      ((sv.ownBlock = some g ∧ w.grownBy w' (some g)) ∨ (g = w.heap.size ∧ w.grownBy w' none)) := by
  obtain ⟨i0, hi, hz0, hz1, hz2⟩ := info_parts info9
  obtain ⟨v', w', hr, hown, hgrow, _, hloc⟩ := run_append_own_at (P := Try.prog) w 0 27 ty 9 i0 (.string ⟨#[]⟩) 1 16 Try.underlying27 hi hz0 hz1 hz2 rfl (by decide) sv l.length (l.map Value.string) hrow a 1 1 [.string x] rfl hx (by simp [Value.oneCell']) (by unfold maxLen; omega) (by omega) (Nat.zero_le _)
  have hm : (l ++ [x]).map Value.string = l.map Value.string ++ [Value.string x] := by simp
  rw [hm]
  obtain ⟨g, cap, rfl⟩ := ownsRow_succ hown
  refine ⟨g, cap, w', hr, hown, ?_⟩
  rcases hrow.2 with ⟨rfl, _⟩ | ⟨g0, cap0, cur, rfl, _, hg, _, _, hcs, _⟩
  · right
    rcases hloc with e | e
    · cases e
    · cases e; exact ⟨rfl, hgrow⟩
  · by_cases hroom : l.length + 1 ≤ cap0
    · have hr2 := run_append_room (P := Try.prog) w 27 ty 9 i0 Try.underlying27 hi g0 l.length cap0 cur hg a 1 1 [.string x] (by simp [hz1]) hx (by simp [Value.oneCell']) hroom (by rw [hz1, hcs]; simp; omega)
      rw [hr2] at hr
      have e1 := (Result.ok.inj hr).1
      injection e1 with e2
      cases e2
      exact .inl ⟨rfl, hgrow⟩
    · have hr2 := run_append_grow (P := Try.prog) w 27 ty 9 i0 (.string ⟨#[]⟩) Try.underlying27 hi hz0 ⟨g0, 0, none⟩ l.length cap0 (l.map Value.string) (by rw [hz1]; simp) (hrow.cells (g := g0) rfl) a 1 1 [.string x] (by simp [hz1]) hx (by omega) (by omega) (growslice_fits (by omega) (by rw [hz2]; omega))
      rw [hr2] at hr
      obtain ⟨e1, e2⟩ := Result.ok.inj hr
      injection e1 with e3
      cases e3
      refine .inr ⟨rfl, ?_⟩
      rw [← e2]
      exact ⟨rfl, rfl, rfl, by simp, fun k hk _ => heap_alloc_old w.drew _ hk⟩
theorem wpList_app (w : World) {ops : Array Oper} {rest : List Oper} {o : Oper} {a : Act} {Q : Exit → Act → World → Prop} (hgd : o.guard = none) (s x : Operand)
    (ho : o.op = .call { callee := .builtin .append, args := #[s, x], argTypes := #[27, 27] }) (sv : Value) (l : List ByteArray) (y : ByteArray) (ad : Addr) (hs : a.eval s = sv) (hx : a.eval x = .slice (some ad) 1 1)
    (hrow : w.ownsRow 0 9 1 sv l.length (l.map Value.string)) (hl : l.length ≤ 4096) (hnews : ∀ j u, [Value.string y][j]? = some u → w.cell? (ad.add j) = some u)
    (h : ∀ g cap w', w'.ownsRow 0 9 1 (.slice (some ⟨g, 0, none⟩) (l.length + 1) cap) (l.length + 1) ((l ++ [y]).map Value.string) →
      ((sv.ownBlock = some g ∧ w.grownBy w' (some g)) ∨ (g = w.heap.size ∧ w.grownBy w' none)) → wpList Try.prog ops Q rest (a.put o.dst (.slice (some ⟨g, 0, none⟩) (l.length + 1) cap)) w') :
    wpList Try.prog ops Q (o :: rest) a w := by
  refine wpList_plain hgd fun K hK => ?_
  obtain ⟨g, cap, w', hr, h2, h3⟩ := app_run w o.type sv l y ad hrow hl hnews
  unfold Oper.wp execOp
  simp only [ho, resolve, invoke, builtin, Sem.run_bind, Sem.run_pure, Result.andThen_ok, List.map_toArray, List.map_cons, List.map_nil, hs, hx, hr]
  exact hK _ _ (h g cap w' h2 h3)
end Go.Proofs.Ytipdniiamaaolaa
