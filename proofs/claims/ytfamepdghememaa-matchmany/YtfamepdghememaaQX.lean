/-
  Carried over from another seat of ours (QX).
-/
import Derived.Test.YtfamepdghememaaQW
set_option linter.unusedVariables false
set_option linter.unusedSimpArgs false
namespace Go.Proofs.Ytfamepdghememaa
open Go.RowKit Go.Maps Go.WideMaps
variable {S S' : Nat → Prop} {W W1 W' : World}
theorem nmN_len (n : Nat) : (nmN n).length = n := by simp [nmN]
theorem nmZ_len (n : Nat) : (nmZ n).length = n := by simp [nmZ]
theorem nmN_mem {n : Nat} {s : ByteArray} (h : s ∈ nmN n) : ∃ i, i < n ∧ s = nmS i := by
  obtain ⟨i, hi, rfl⟩ := List.mem_map.1 h
  exact ⟨i, List.mem_range.1 hi, rfl⟩
theorem nmZ_mem {n : Nat} {z : Int} (h : z ∈ nmZ n) : ∃ i : Nat, i < n ∧ z = (i : Int) := by
  obtain ⟨i, hi, rfl⟩ := List.mem_map.1 h
  exact ⟨i, List.mem_range.1 hi, rfl⟩
/-- The binds of the law's names. -/
def nmB (n : Nat) : List (ByteArray × Lf) := (List.range n).map fun i : Nat => (nmS i, { k := 1, n := (i : Int) })
theorem zip_fst (ns : List ByteArray) (vs : List Value) (h : vs.length = ns.length) : (ns.zip vs).map Prod.fst = ns := List.map_fst_zip (by omega)
theorem zip_at {ns : List ByteArray} {vs : List Value} (h : vs.length = ns.length) {s : ByteArray} (hs : s ∈ ns) : ∃ (j : Nat) (v : Value), ns[j]? = some s ∧ vs[j]? = some v ∧ (s, v) ∈ ns.zip vs := by
  obtain ⟨j, hj⟩ := List.mem_iff_getElem?.1 hs
  have hl := (List.getElem?_eq_some_iff.1 hj).1
  refine ⟨j, vs[j], hj, List.getElem?_eq_getElem (by omega), List.mem_iff_getElem?.2 ⟨j, ?_⟩⟩
  rw [List.getElem?_zip_eq_some]
  exact ⟨hj, List.getElem?_eq_getElem (by omega)⟩
theorem mm_c (A : Nat → Prop) (W : World) (n : Nat) (hn : n ≤ 200) (pv tv : Value) (hp : Rep A W (.mk { k := 7 } [] ((nmN n).map vr)) pv) (ht : Rep A W (.mk { k := 7 } [] ((nmZ n).map it)) tv) (hA : ∀ i, A i → i < W.heap.size)
    (ka : Option Addr) (kb kc : Nat) (kl : List (ByteArray × Lf)) (hK : Kl W ka kb kc kl) (hk1 : kl.length ≤ 1) (R0 : ByteArray → Option Value) (hR0 : ∀ s ∈ nmN n, R0 s = none) (hRs : ∀ s v, R0 s = some v → s.size ≤ 1000) (hRv : ∀ s v, R0 s = some v → ∃ t a1 c1 a2 c2, v = lv t a1 c1 a2 c2)
    (hmo : ∀ w, Gr (fun _ => False) W w → Calls Try.prog 15 #[.slice ka kl.length kc] w fun e w' => ∃ mb, e = .returned (.tuple #[.map (some mb), .bool true]) ∧ w.heap.size ≤ mb ∧ Mo w' mb z9 kl.length R0 ∧ Gr (fun _ => False) w w') :
    Calls Try.prog 8 #[pv, tv, .slice ka kl.length kc] W fun e w' => ((64 < kl.length + n ∧ e = .returned (.tuple #[.slice none 0 0, .bool false, .int .i64 52])) ∨ (kl.length + n ≤ 64 ∧ ∃ v bv, e = .returned (.tuple #[v, .bool true, .int .i64 0]) ∧ w'.ownsRow W.heap.size 36 10 v (kl.length + n) (bv.flatMap cellsOf) ∧ Bds (kl ++ nmB n) bv)) ∧ Gr (fun _ => False) W w' := by
  have hnd := nm_nodup hn
  have hfit : ∀ (vs : List Value) (b : Bool) (m : Nat) (R : ByteArray → Option Value), vs.length = (nmN n).length → fitR ((nmN n).zip vs) kl.length R0 = (b, m, R) → b = true ∧ m = kl.length + n ∧ ∀ (j : Nat) (s : ByteArray) (v : Value), (nmN n)[j]? = some s → vs[j]? = some v → R s = some v := by
    intro vs b m R hvl hf
    have hz := zip_fst (nmN n) vs hvl
    obtain ⟨R', e1, e2, -⟩ := fitR_new ((nmN n).zip vs) kl.length R0 (by rw [hz]; exact hnd) (fun p hp => hR0 p.1 (by rw [← hz]; exact List.mem_map_of_mem hp))
    rw [e1] at hf
    have hl : ((nmN n).zip vs).length = n := by rw [List.length_zip, hvl, nmN_len]; omega
    rw [hl] at hf
    cases hf
    refine ⟨rfl, rfl, fun j s v h1 h2 => ?_⟩
    exact e2 (s, v) (List.mem_iff_getElem?.2 ⟨j, by rw [List.getElem?_zip_eq_some]; exact ⟨h1, h2⟩⟩)
  refine match_c same_ok A W 7 (.inr rfl) (nmN n) (nmN n) (nmZ n) pv tv hp ht hA (by rw [nmN_len, nmZ_len]) (by rw [nmN_len]; omega) (fun s hs => ?_) (fun z hz => ?_) (by simpa using gath_new (nmN n) [] hnd (fun s _ => by simp)) (fun s hs => hs) (by rw [nmN_len]; omega) ka kb kc kl hK hk1 R0 hR0 hRs hRv hmo _ (fun vs b m R e w' hvl hvs hf hM hG => ?_) (fun vs b m R hvl hf hb hI s hs => ?_)
  · obtain ⟨i, hi, rfl⟩ := nmN_mem hs
    exact ⟨nm_var (by omega), by rw [nm_size]; omega, by rw [nm_size]; omega⟩
  · obtain ⟨i, hi, rfl⟩ := nmZ_mem hz
    simp [inR]; omega
  · obtain ⟨rfl, rfl, hR⟩ := hfit vs b m R hvl hf
    refine ⟨?_, hG⟩
    rcases hM with ⟨h, _⟩ | ⟨_, h1, h2⟩ | ⟨_, h1, v, bv, he, ho, hB⟩
    · cases h
    · exact .inl ⟨h1, h2⟩
    · refine .inr ⟨h1, v, bv, he, by rw [nmN_len] at ho; exact ho, ?_⟩
      have e : ((nmN n).map fun s => ((s, { k := 1, n := numV ((R s).getD z9) }) : ByteArray × Lf)) = nmB n := by
        unfold nmN nmB
        rw [List.map_map]
        refine List.map_congr_left (fun i hi => ?_)
        have hi := List.mem_range.1 hi
        have h1 : (nmN n)[i]? = some (nmS i) := by simp [nmN, hi]
        obtain ⟨v, hv⟩ : ∃ v, vs[i]? = some v := ⟨_, List.getElem?_eq_getElem (by rw [hvl, nmN_len]; exact hi)⟩
        obtain ⟨z, hz1, hz2⟩ := hvs i v hv
        have hz : (nmZ n)[i]? = some (i : Int) := by simp [nmZ, hi]
        rw [hz] at hz1
        cases hz1
        simp only [Function.comp_apply, hR i _ v h1 hv, Option.getD_some, hz2]
      rw [e] at hB
      exact hB
  · obtain ⟨-, -, hR⟩ := hfit vs b m R hvl hf
    obtain ⟨j, v, h1, h2, -⟩ := zip_at hvl hs
    exact ⟨v, hR j s v h1 h2, hI j v h2⟩
/-- A part without elements behind a row of them. -/
theorem wpList_lf (w : World) {ops : Array Oper} {rest : List Oper} {o : Oper} {a : Act} {Q : Exit → Act → World → Prop} (hgd : o.guard = none) (x y : Operand)
    (ho : o.op = .call { callee := .builtin .append, args := #[x, y], argTypes := #[23, 23] }) (base p g : Nat) (v : Value) (xs : List Value) (t : Lf) (hx : a.eval x = v) (hy : a.eval y = .slice (some ⟨g, 0, none⟩) 1 1)
    (hv : w.ownsRow base 31 9 v p xs) (hs : w.heap[g]? = some (.cells #[.int .i64 t.k, .int .i64 t.n, .complex .f64 t.x t.y, .string t.s, .int .i64 t.a, .int .u32 t.c, .int .u64 t.d, nl, nl] 31 (0, 0))) (hlen : p ≤ 1000) (hbase : base ≤ w.heap.size)
    (h : ∀ v' w', w'.ownsRow base 31 9 v' (p + 1) (xs ++ cellsOf (lv0 t)) → w.grownBy w' v.ownBlock → (v'.ownBlock = v.ownBlock ∨ v'.ownBlock = some w.heap.size) → wpList Try.prog ops Q rest (a.put o.dst v') w') :
    wpList Try.prog ops Q (o :: rest) a w := by
  obtain ⟨i0, hi, hz0, hz1, hz2⟩ := info_parts info31
  refine wpList_own2 w hgd 23 x y ho base 31 i0 _ 9 120 Try.underlying23 hi hz0 hz1 hz2 rfl (by decide) v p xs ⟨g, 0, none⟩ 1 1 (cellsOf (lv0 t)) hx hy hv rfl (fun j u hu => by
      rw [Addr.add_lit, Nat.zero_add]
      simp only [World.cell?, hs]
      simpa [cellsOf] using hu) (fun u hu => by simp [cellsOf] at hu; rcases hu with rfl | rfl | rfl | rfl | rfl | rfl | rfl | rfl | rfl <;> rfl) (by unfold maxLen; omega) (by omega) hbase h
/-- Values of the law's rows. -/
def rN (n : Nat) : List Value := (List.range n).map fun i : Nat => lv0 { k := 9, s := nmS i }
def rZ (n : Nat) : List Value := (List.range n).map fun i : Nat => lv0 { k := 1, n := (i : Int) }
theorem rN_succ (n : Nat) : (rN (n + 1)).flatMap cellsOf = (rN n).flatMap cellsOf ++ cellsOf (lv0 { k := 9, s := nmS n }) := by
  simp [rN, List.range_succ]
theorem rZ_succ (n : Nat) : (rZ (n + 1)).flatMap cellsOf = (rZ n).flatMap cellsOf ++ cellsOf (lv0 { k := 1, n := (n : Int) }) := by
  simp [rZ, List.range_succ]
theorem rN_reps (A : Nat → Prop) (W : World) (n : Nat) : Reps A W ((nmN n).map vr) (rN n) := by
  have := reps_lv0 A W ((List.range n).map fun i : Nat => { k := 9, s := nmS i })
  simpa [rN, nmN, leafs, vr, Function.comp_def] using this
theorem rZ_reps (A : Nat → Prop) (W : World) (n : Nat) : Reps A W ((nmZ n).map it) (rZ n) := by
  have := reps_lv0 A W ((List.range n).map fun i : Nat => { k := 1, n := (i : Int) })
  simpa [rZ, nmZ, leafs, it, Function.comp_def] using this
theorem rN_len : ∀ n : Nat, ((rN n).flatMap cellsOf).length = n * 9
  | 0 => rfl
  | n + 1 => by rw [rN_succ, List.length_append, rN_len n]; simp [cellsOf]; omega
theorem rN_at {i : Nat} (q : Nat) (u : Value) (hu : (cellsOf (lv0 { k := 9, s := nmS i }))[q]? = some u) : ∀ n, i < n → ((rN n).flatMap cellsOf)[i * 9 + q]? = some u
  | 0, h => by omega
  | n + 1, h => by
    rw [rN_succ]
    rcases Nat.lt_or_ge i n with h1 | h1
    · have := rN_at q u hu n h1
      rw [List.getElem?_append_left (List.getElem?_eq_some_iff.1 this).1]
      exact this
    · have e : i = n := by omega
      subst e
      rw [List.getElem?_append_right (by rw [rN_len]; omega), rN_len, show i * 9 + q - i * 9 = q by omega]
      exact hu
theorem nmB_at {n i : Nat} (h : i < n) : (nmB n)[i]? = some (nmS i, { k := 1, n := (i : Int) }) := by simp [nmB, h]
end Go.Proofs.Ytfamepdghememaa

