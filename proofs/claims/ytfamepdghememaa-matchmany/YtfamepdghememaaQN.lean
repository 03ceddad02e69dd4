/-
  Carried over from another seat of ours (QN).
-/
import Derived.Test.YtfamepdghememaaQM
set_option linter.unusedVariables false
set_option linter.unusedSimpArgs false
namespace Go.Proofs.Ytfamepdghememaa
open Go.RowKit Go.Maps Go.WideMaps
attribute [local go_sem] Oper.semAt_some
variable {S S' : Nat → Prop} {W W1 W' : World}
/-! ### Tuples and lists of leaves -/
theorem goL_leaves : ∀ (l : List Lf) (d : Int) (z : Nat), goL stepW (l.map fun t => Tm.mk t [] []) d z = .ok (z + l.length)
  | [], d, z => by simp [goL]
  | t :: l, d, z => by
    rw [List.map_cons, goL_cons, show goT stepW (.mk t [] []) d z = .ok (z + 1) by simp [goT, goL, stepW, lenB]]
    show goL stepW (l.map fun t => Tm.mk t [] []) d (z + 1) = _
    rw [goL_leaves l d (z + 1), List.length_cons]; congr 1; omega
theorem okL_leaves (P : Int → Tm → Nat → Prop) : ∀ (l : List Lf) (d : Int) (z : Nat), (∀ t ∈ l, ∀ z', z' ≤ z + l.length → P d (.mk t [] []) z') → okL P stepW (l.map fun t => Tm.mk t [] []) d z
  | [], d, z, h => by simp only [List.map_nil, okL]
  | t :: l, d, z, h => by
    rw [List.map_cons, okL_cons]
    refine ⟨⟨h t (by simp) z (by omega), fun s' _ => by simp only [okL]⟩, fun s' hs' => ?_⟩
    have e : s' = z + 1 := by simp [goT, goL, stepW, lenB] at hs'; omega
    subst e
    exact okL_leaves P l d (z + 1) (fun t' ht' z' hz' => h t' (by simp [ht']) z' (by simp; omega))
theorem hgt_leaves (l : List Lf) : hgtL (l.map fun t => Tm.mk t [] []) ≤ 1 := by
  induction l with
  | nil => simp [hgtL]
  | cons t l ih => rw [List.map_cons, hgtL_cons]; simp [hgt, hgtL]; omega
theorem thin_leaves (l : List Lf) : thinL (l.map fun t => Tm.mk t [] []) := by
  induction l with
  | nil => simp [thinL]
  | cons t l ih => rw [List.map_cons, thinL_cons]; exact ⟨by simp [thin, thinL], ih⟩
theorem check_nest (A : Nat → Prop) (W : World) (k : Int) (hk : k = 6 ∨ k = 7) (zs : List Int) (v : Value) (h : Rep A W (.mk { k := k } [] (zs.map it)) v) (hA : ∀ i, A i → i < W.heap.size) (hn : zs.length ≤ 256) (hi : ∀ z ∈ zs, inR z = true) :
    Calls Try.prog 14 #[v] W fun e w' => e = .returned (.int .i64 0) ∧ Gr (fun _ => False) W w' := by
  have e : zs.map it = (zs.map fun z => ({ k := 1, n := z } : Lf)).map fun t => Tm.mk t [] [] := by rw [List.map_map]; rfl
  have hl : (zs.map fun z => ({ k := 1, n := z } : Lf)).length = zs.length := by simp
  refine check_t A W _ v (1 + zs.length) h hA ?_ ⟨⟨?_, by decide, by simp [lenB]⟩, fun s' hs' => ?_⟩ ?_
  · rw [hgt, e]; have := hgt_leaves (zs.map fun z => ({ k := 1, n := z } : Lf)); simp at this ⊢; omega
  · rcases hk with rfl | rfl
    · exact ok_tuple _ (by simpa using hn)
    · exact ok_list _ (by simpa using hn)
  · have e1 : s' = 1 := by simp [stepW, lenB] at hs'; omega
    subst e1
    rw [e]
    refine okL_leaves Pw _ _ _ (fun t ht z' hz' => ?_)
    obtain ⟨z, hz, rfl⟩ := List.mem_map.1 ht
    exact ⟨ok_int z (hi z hz), by decide, by rw [hl] at hz'; simp [lenB]; omega⟩
  · rw [goT]
    show goL stepW (zs.map it) (1 + 1) (0 + 1 + 0) = _
    rw [e, goL_leaves, hl]
/-! ### Two of them in memory -/
theorem ft_of {A : Nat → Prop} {gp op gt ot : Nat} {k : Int} {ns : List ByteArray} {zs : List Int} (hp : At A W (.mk { k := k } [] (ns.map vr)) gp op) (ht : At A W (.mk { k := k } [] (zs.map it)) gt ot) (hl : ns.length = zs.length) (hi : ∀ z ∈ zs, inR z = true) :
    ∃ (pa ta : Option Addr) (pb tb pc tc : Nat) (vs : List Value), Ft W gp op gt ot k pa ta pb tb ns.length pc tc ns vs ∧ ∀ (j : Nat) (v : Value), vs[j]? = some v → ∃ z : Int, zs[j]? = some z ∧ numV v = z := by
  obtain ⟨v, hr, hn⟩ := hp.ns
  obtain ⟨t, bs, l', a1, c1, a2, c2, e, rfl⟩ := hr.ts
  cases e
  obtain ⟨a, n, c, hc8, hnl, hel⟩ := hp.row
  obtain ⟨v', hr', hn'⟩ := ht.ns
  obtain ⟨t', bs', l'', a1', c1', a2', c2', e', rfl⟩ := hr'.ts
  cases e'
  obtain ⟨a', n', c', hc8', hnl', hel'⟩ := ht.row
  rw [List.length_map] at hnl hnl'
  subst hnl
  obtain ⟨pb, hpb⟩ : ∃ pb, ns ≠ [] → a = some ⟨pb, 0, none⟩ ∧ ns.length ≤ c ∧ ∀ k x, (ns.map vr)[k]? = some x → At A W x pb (k * 9) := by
    by_cases h0 : ns = []
    · exact ⟨0, fun e => absurd h0 e⟩
    · obtain ⟨b, h1, h2, h3⟩ := hel (by simpa using h0)
      exact ⟨b, fun _ => ⟨h1, h2, h3⟩⟩
  obtain ⟨tb, htb⟩ : ∃ tb, zs ≠ [] → a' = some ⟨tb, 0, none⟩ ∧ n' ≤ c' ∧ ∀ k x, (zs.map it)[k]? = some x → At A W x tb (k * 9) := by
    by_cases h0 : zs = []
    · exact ⟨0, fun e => absurd h0 e⟩
    · obtain ⟨b, h1, h2, h3⟩ := hel' (by simpa using h0)
      exact ⟨b, fun _ => ⟨h1, h2, h3⟩⟩
  obtain ⟨vs, hvl, hvs⟩ := choose_list (P := fun j v => ∃ z, zs[j]? = some z ∧ numV v = z ∧ Ns W tb (j * 9) v ∧ IntV v) ns.length (fun j hj => by
    have hj' : j < zs.length := by omega
    have hne : zs ≠ [] := fun e => by rw [e] at hj'; simp at hj'
    have hx : (zs.map it)[j]? = some (it zs[j]) := by simp [hj']
    obtain ⟨w, hw, hwn⟩ := ((htb hne).2.2 j _ hx).ns
    obtain ⟨b1, d1, b2, d2, rfl⟩ := leaf_v hw
    exact ⟨_, zs[j], by simp [hj'], rfl, hwn, zs[j], b1, d1, b2, d2, rfl, hi _ (List.getElem_mem _)⟩)
  refine ⟨a, a', pb, tb, c, c', vs, ⟨(hn.facts).1, (hn'.facts).1, hc8, by rw [hl, ← hnl']; exact hc8', fun h0 => ?_, fun h0 => ?_, rfl, hvl, fun j s hs => ?_, fun j v hv => ?_⟩, fun j v hv => ?_⟩
  · have := hpb (fun e => by rw [e] at h0; simp at h0); exact ⟨this.1, this.2.1⟩
  · have := htb (fun e => by rw [hl, e] at h0; simp at h0); exact ⟨this.1, by rw [hl, ← hnl']; exact this.2.1⟩
  · have hne : ns ≠ [] := fun e => by rw [e] at hs; simp at hs
    obtain ⟨w, hw, hwn⟩ := ((hpb hne).2.2 j (vr s) (by rw [List.getElem?_map, hs]; rfl)).ns
    obtain ⟨b1, d1, b2, d2, rfl⟩ := leaf_v hw
    exact ⟨b1, d1, b2, d2, hwn⟩
  · obtain ⟨z, h1, h2, h3, h4⟩ := hvs j v hv; exact ⟨h3, h4⟩
  · obtain ⟨z, h1, h2, h3, h4⟩ := hvs j v hv; exact ⟨z, h1, h2⟩
/-! ### Rows of binds -/
theorem info36 : (Try.prog.info? 36).map (fun i => (i.zero, i.size, i.bytes)) = some (some (bd e0 { k := 0 } none 0 none 0), 10, 136) := by kernel_rfl
/-- These values are these binds. -/
def Bds : List (ByteArray × Lf) → List Value → Prop
  | [], l => l = []
  | (s, t) :: r, l => ∃ b1 d1 b2 d2 l', l = bd s t b1 d1 b2 d2 :: l' ∧ Bds r l'
theorem Bds.snoc {s : ByteArray} {t : Lf} {b1 : Option Addr} {d1 : Nat} {b2 : Option Addr} {d2 : Nat} : ∀ {r : List (ByteArray × Lf)} {l : List Value}, Bds r l → Bds (r ++ [(s, t)]) (l ++ [bd s t b1 d1 b2 d2])
  | [], l, h => by cases h; exact ⟨b1, d1, b2, d2, [], rfl, rfl⟩
  | (s', t') :: r, l, h => by
    obtain ⟨x1, y1, x2, y2, l', rfl, h'⟩ := h
    exact ⟨x1, y1, x2, y2, l' ++ [bd s t b1 d1 b2 d2], rfl, Bds.snoc h'⟩
theorem Bds.flat : ∀ {r : List (ByteArray × Lf)} {l : List Value}, Bds r l → (l.flatMap cellsOf).length = r.length * 10
  | [], l, h => by cases h; rfl
  | (s', t') :: r, l, h => by
    obtain ⟨x1, y1, x2, y2, l', rfl, h'⟩ := h
    rw [List.flatMap_cons, List.length_append, Bds.flat h', List.length_cons]; simp [cellsOf]; omega
theorem wpList_bd (w : World) {ops : Array Oper} {rest : List Oper} {o : Oper} {a : Act} {Q : Exit → Act → World → Prop} (hgd : o.guard = none) (x y : Operand)
    (ho : o.op = .call { callee := .builtin .append, args := #[x, y], argTypes := #[34, 34] }) (base p g : Nat) (v : Value) (xs : List Value) (s : ByteArray) (t : Lf) (b1 : Option Addr) (d1 : Nat) (b2 : Option Addr) (d2 : Nat) (hx : a.eval x = v) (hy : a.eval y = .slice (some ⟨g, 0, none⟩) 1 1)
    (hv : w.ownsRow base 36 10 v p xs) (hs : w.heap[g]? = some (.cells #[.string s, .int .i64 t.k, .int .i64 t.n, .complex .f64 t.x t.y, .string t.s, .int .i64 t.a, .int .u32 t.c, .int .u64 t.d, .slice b1 0 d1, .slice b2 0 d2] 36 (0, 0))) (hlen : p ≤ 1000) (hbase : base ≤ w.heap.size)
    (h : ∀ v' w', w'.ownsRow base 36 10 v' (p + 1) (xs ++ cellsOf (bd s t b1 d1 b2 d2)) → w.grownBy w' v.ownBlock → (v'.ownBlock = v.ownBlock ∨ v'.ownBlock = some w.heap.size) → wpList Try.prog ops Q rest (a.put o.dst v') w') :
    wpList Try.prog ops Q (o :: rest) a w := by
  refine wpList_plain hgd fun K hK => ?_
  obtain ⟨i0, hi, hz0, hz1, hz2⟩ := info_parts info36
  obtain ⟨v', w', hr, hown, hgrow, _, hloc⟩ := run_append_own_at (P := Try.prog) w base 34 o.type 36 i0 _ 10 136 Try.underlying34 hi hz0 hz1 hz2 rfl (by decide) v p xs hv ⟨g, 0, none⟩ 1 1 (cellsOf (bd s t b1 d1 b2 d2)) rfl
    (fun j u hu => by
      rw [Addr.add_lit, Nat.zero_add]
      simp only [World.cell?, hs]
      simpa [cellsOf] using hu) (fun u hu => by simp [cellsOf] at hu; rcases hu with rfl | rfl | rfl | rfl | rfl | rfl | rfl | rfl | rfl | rfl <;> rfl) (by unfold maxLen; omega) (by omega) hbase
  unfold Oper.wp execOp
  simp only [ho, resolve, invoke, builtin, Sem.run_bind, Sem.run_pure, Result.andThen_ok, List.map_toArray, List.map_cons, List.map_nil, hx, hy, hr]
  exact hK _ _ (h v' w' hown hgrow hloc)
end Go.Proofs.Ytfamepdghememaa

