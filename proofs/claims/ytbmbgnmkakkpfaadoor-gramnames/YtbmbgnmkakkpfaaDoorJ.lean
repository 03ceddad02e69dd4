/-
  Carried over from another seat of ours (J).
-/
import Derived.Test.YtbmbgnmkakkpfaaDoorI
import Derived.Maps.AppendAt
import Derived.Laws.OwnMore
import Derived.Lib.AppendStr
import Derived.Lib.Walk
set_option linter.unusedVariables false
set_option linter.unusedSimpArgs false
namespace Go.Proofs.YtbmbgnmkakkpfaaDoor
open Go.RowKit Go.Maps
variable {S S' : Nat → Prop} {W W1 W' : World}

def u8s (l : List Int) : List Value := l.map (Value.int .u8)
@[simp] theorem u8s_length (l : List Int) : (u8s l).length = l.length := by simp [u8s]
theorem u8s_append (a b : List Int) : u8s (a ++ b) = u8s a ++ u8s b := by simp [u8s]
/-- A row of bytes of the call's own. -/
structure Ob (base : Nat) (W : World) (v : Value) (l : List Int) : Prop where
  len : l.length ≤ 1000000
  row : W.ownsRow base 5 1 v l.length (u8s l)
theorem Ob.gr {base : Nat} {v : Value} {l : List Int} (h : Ob base W v l) (g : Gr S W W') (hs : ∀ k, base ≤ k → v.ownBlock = some k → ¬ S k) : Ob base W' v l :=
  ⟨h.len, ownsRow_of_block h.row (fun k h1 h2 => g.block k (ownsRow_lt h.row k h2).2 (hs k h1 h2))⟩
theorem Ob.mono {base base' : Nat} {v : Value} {l : List Int} (h : Ob base W v l) (hb : base' ≤ base) : Ob base' W v l := by
  refine ⟨h.len, h.row.1, ?_⟩
  rcases h.row.2 with h0 | ⟨g, cap, cur, rfl, hg, h2, h3⟩
  · exact .inl h0
  · exact .inr ⟨g, cap, cur, rfl, by omega, h2, h3⟩
theorem Ob.sv {base : Nat} {v : Value} {l : List Int} (h : Ob base W v l) : ∃ a cap, v = .slice a l.length cap := ownsRow_sv h.row
theorem Ob.lit (base : Nat) (W : World) (l : List Int) (hn : l.length ≤ 1000) (hb : base ≤ W.heap.size) (c : Array Value) (hc : c.toList = u8s l) (n : Nat) (hn' : n = l.length) :
    Ob base (W.alloc (.cells c 5)) (.slice (some ⟨W.heap.size, 0, none⟩) n n) l := by
  subst hn'
  refine ⟨by omega, ?_⟩
  have := World.ownsRow_lit (base := base) (e := 5) (size := 1) W c l.length hb (by unfold maxLen; omega) (by rw [← Array.length_toList, hc, u8s_length, Nat.mul_one])
  rwa [hc] at this
theorem Ob.grown {base : Nat} {v : Value} {l : List Int} (h : Ob base W v l) (hg : W.grownBy W' v.ownBlock) : Gr (fun k => base ≤ k) W W' := Gr.of_grown hg (fun k e => (ownsRow_lt h.row k e).1)

/-- Bytes in memory. -/
def Sb (W : World) (s : Value) (m : List Int) : Prop :=
  (∃ c, s = .slice none 0 c ∧ m = []) ∨ ∃ a c, s = .slice (some a) m.length c ∧ ∀ j u, (u8s m)[j]? = some u → W.cell? (a.add j) = some u
theorem Ob.sb {base : Nat} {v : Value} {l : List Int} (h : Ob base W v l) : Sb W v l := by
  rcases h.row.2 with ⟨h1, h2⟩ | ⟨g, cap, cur, rfl, hb, hg, hc, hm, h5, h6⟩
  · exact .inl ⟨0, h1, List.eq_nil_of_length_eq_zero h2⟩
  · refine .inr ⟨⟨g, 0, none⟩, cap, rfl, fun j u hu => ?_⟩
    rw [Addr.add_lit, Nat.zero_add]
    have hj : j < l.length := by simpa using (List.getElem?_eq_some_iff.1 hu).1
    simp only [World.cell?, hg]
    rw [← h6, Nat.mul_one, List.getElem?_take_of_lt hj] at hu
    simpa using hu
/-- Only the row's own block has turned, or new ones; the row lies where it lay, or anew. -/
structure Loc (v : Value) (W : World) (v' : Value) (W' : World) : Prop where
  gr : Gr (fun k => v.ownBlock = some k) W W'
  at_ : v'.ownBlock = v.ownBlock ∨ ∀ k, v'.ownBlock = some k → W.heap.size ≤ k
theorem Loc.refl (v : Value) (W : World) : Loc v W v W := ⟨Gr.refl _ _, .inl rfl⟩
theorem Loc.trans {v v1 v' : Value} (h : Loc v W v1 W1) (k : Loc v1 W1 v' W') : Loc v W v' W' := by
  refine ⟨h.gr.trans' k.gr (fun i hi e => ?_), ?_⟩
  · rcases h.at_ with h1 | h1
    · rw [← h1]; exact e
    · have := h1 i e; omega
  · rcases k.at_ with k1 | k1
    · rw [k1]; exact h.at_
    · exact .inr (fun i e => Nat.le_trans h.gr.size (k1 i e))
theorem i5 : (Tryd.prog.info? 5).map (fun i => (i.zero, i.size, i.bytes)) = some (some (.int .u8 0), 1, 1) := by kernel_rfl
theorem ap_run (w : World) (ty : TypeId) (base : Nat) (v s : Value) (l m : List Int) (hv : Ob base w v l) (hs : Sb w s m) (hlen : l.length + m.length ≤ 1000000) (hbase : base ≤ w.heap.size) :
    ∃ v' w', (Builtin.append_ #[22, 22] ty #[v, s]).run Tryd.prog w = .ok v' w' ∧ Ob base w' v' (l ++ m) ∧ Loc v w v' w' := by
  obtain ⟨i0, hi, hz0, hz1, hz2⟩ := info_parts i5
  rcases hs with ⟨c, rfl, rfl⟩ | ⟨a, cap, rfl, h3⟩
  · exact ⟨v, w, run_append_owned_none w base 22 ty 5 i0 1 Tryd.underlying22 hi v _ _ hv.row, by simpa using hv, Loc.refl _ _⟩
  · obtain ⟨v', w', hr, hown, hgrow, _, hloc⟩ := run_append_own_at (P := Tryd.prog) w base 22 ty 5 i0 (.int .u8 0) 1 1 Tryd.underlying22 hi hz0 hz1 hz2 rfl (by decide) v l.length (u8s l) hv.row a m.length cap (u8s m) (by simp)
      h3 (fun u hu => by obtain ⟨x, _, rfl⟩ := List.mem_map.1 hu; rfl) (by unfold maxLen; omega) (by omega) hbase
    refine ⟨v', w', hr, ⟨by simpa using hlen, ?_⟩, Gr.of_grown hgrow (fun k e => e), hloc.imp id (fun h k e => by rw [h] at e; cases e; exact Nat.le_refl _)⟩
    rw [u8s_append, List.length_append]; exact hown
/-- A text's bytes. -/
def tb (s : ByteArray) : List Int := s.data.toList.map fun b => (b.toNat : Int)
theorem tb_length (s : ByteArray) : (tb s).length = s.size := by simp [tb]
theorem aps_run (w : World) (ty : TypeId) (base : Nat) (v : Value) (s : ByteArray) (l : List Int) (hv : Ob base w v l) (hlen : l.length + s.size ≤ 1000000) (hbase : base ≤ w.heap.size) :
    ∃ v' w', (Builtin.append_ #[22, 9] ty #[v, .string s]).run Tryd.prog w = .ok v' w' ∧ Ob base w' v' (l ++ tb s) ∧ Loc v w v' w' := by
  obtain ⟨i0, hi, hz0, hz1, hz2⟩ := info_parts i5
  obtain ⟨v', w', hr, hown, hgrow, hnil⟩ := Lib.run_append_own_string (P := Tryd.prog) w base 22 9 ty 5 i0 Tryd.underlying22 Tryd.underlying9 hi hz0 hz1 hz2 v l.length (u8s l) hv.row s (by unfold maxLen; omega) (by omega) hbase
  have hloc : v'.ownBlock = v.ownBlock ∨ ∀ k, v'.ownBlock = some k → w.heap.size ≤ k := by
    rcases hv.row.2 with ⟨rfl, h0⟩ | ⟨g, cap, cur, rfl, hbg, hg, hnc, hcm, hcs, htake⟩
    · by_cases hm : s.size = 0
      · exact .inl (by rw [hnil.2 ⟨rfl, hm⟩])
      · have hr2 := run_append_nil_string (P := Tryd.prog) w 22 9 ty 5 i0 (.int .u8 0) Tryd.underlying22 Tryd.underlying9 hi hz0 s (by omega) (by omega) (by rw [hz2]; omega)
        rw [hr2] at hr
        cases hr
        exact .inr (fun k e => by simp [Value.ownBlock] at e; omega)
    · by_cases hroom : l.length + s.size ≤ cap
      · have hr2 := Lib.run_append_room_string (P := Tryd.prog) w 22 9 ty 5 i0 Tryd.underlying22 Tryd.underlying9 hi hz1 g l.length cap cur hg s hroom (by omega)
        rw [hr2] at hr
        cases hr
        exact .inl rfl
      · have holds : ∀ j u, (u8s l)[j]? = some u → w.cell? ((⟨g, 0, none⟩ : Addr).add j) = some u := hv.row.cells (g := g) rfl
        have hr2 := Lib.run_append_grow_string (P := Tryd.prog) w 22 9 ty 5 i0 (.int .u8 0) Tryd.underlying22 Tryd.underlying9 hi hz0 ⟨g, 0, none⟩ l.length cap (u8s l) (by rw [hz1]; simp) holds s (by omega) (by omega) (by rw [hz2]; exact growslice_fits (by omega) (by omega))
        rw [hr2] at hr
        cases hr
        exact .inr (fun k e => by simp [Value.ownBlock] at e; omega)
  refine ⟨v', w', hr, ⟨by rw [List.length_append, tb_length]; exact hlen, ?_⟩, Gr.of_grown hgrow (fun k e => e), hloc⟩
  rw [u8s_append, List.length_append, tb_length]
  have : u8s (tb s) = Lib.strCells s := by simp [u8s, tb, Lib.strCells]
  rw [this]
  exact hown
section
variable {w : World} {ops : Array Oper} {rest : List Oper} {o : Oper} {a : Act} {Q : Exit → Act → World → Prop} {K : Act → World → Prop} {E : Prop}
theorem wpList_ap (hgd : o.guard = none) (x y : Operand)
    (ho : o.op = .call { callee := .builtin .append, args := #[x, y], argTypes := #[22, 22] }) (base : Nat) (v s : Value) (l m : List Int) (hx : a.eval x = v) (hy : a.eval y = s)
    (hv : Ob base w v l) (hs : Sb w s m) (hlen : l.length + m.length ≤ 1000000) (hbase : base ≤ w.heap.size)
    (h : ∀ v' w', Ob base w' v' (l ++ m) → Loc v w v' w' → wpList Tryd.prog ops Q rest (a.put o.dst v') w') : wpList Tryd.prog ops Q (o :: rest) a w := by
  refine wpList_plain hgd fun K hK => ?_
  obtain ⟨v', w', hr, h1, h2⟩ := ap_run w o.type base v s l m hv hs hlen hbase
  unfold Oper.wp execOp
  simp only [ho, resolve, invoke, builtin, Sem.run_bind, Sem.run_pure, Result.andThen_ok, List.map_toArray, List.map_cons, List.map_nil, hx, hy, hr]
  exact hK _ _ (h v' w' h1 h2)
theorem wpList_aps (hgd : o.guard = none) (x y : Operand)
    (ho : o.op = .call { callee := .builtin .append, args := #[x, y], argTypes := #[22, 9] }) (base : Nat) (v : Value) (s : ByteArray) (l : List Int) (hx : a.eval x = v) (hy : a.eval y = .string s)
    (hv : Ob base w v l) (hlen : l.length + s.size ≤ 1000000) (hbase : base ≤ w.heap.size)
    (h : ∀ v' w', Ob base w' v' (l ++ tb s) → Loc v w v' w' → wpList Tryd.prog ops Q rest (a.put o.dst v') w') : wpList Tryd.prog ops Q (o :: rest) a w := by
  refine wpList_plain hgd fun K hK => ?_
  obtain ⟨v', w', hr, h1, h2⟩ := aps_run w o.type base v s l hv hlen hbase
  unfold Oper.wp execOp
  simp only [ho, resolve, invoke, builtin, Sem.run_bind, Sem.run_pure, Result.andThen_ok, List.map_toArray, List.map_cons, List.map_nil, hx, hy, hr]
  exact hK _ _ (h v' w' h1 h2)
theorem step_ap (hgd : o.guard = none) (x y : Operand)
    (ho : o.op = .call { callee := .builtin .append, args := #[x, y], argTypes := #[22, 22] }) (base : Nat) (v s : Value) (l m : List Int) (hx : a.eval x = v) (hy : a.eval y = s)
    (hv : Ob base w v l) (hs : Sb w s m) (hlen : l.length + m.length ≤ 1000000) (hbase : base ≤ w.heap.size)
    (h : ∀ v' w', Ob base w' v' (l ++ m) → Loc v w v' w' → K (a.put o.dst v') w') :
    if Region.wanted o (yielded ops a.tmps) = true then Oper.wp Tryd.prog o a w K Q else E := by
  have hw : Region.wanted o (yielded ops a.tmps) = true := by simp [Region.wanted, hgd]
  rw [if_pos hw]
  obtain ⟨v', w', hr, h1, h2⟩ := ap_run w o.type base v s l m hv hs hlen hbase
  unfold Oper.wp execOp
  simp only [ho, resolve, invoke, builtin, Sem.run_bind, Sem.run_pure, Result.andThen_ok, List.map_toArray, List.map_cons, List.map_nil, hx, hy, hr]
  exact h v' w' h1 h2
end

theorem foldl_sb (l : List Int) : ∀ (r : ByteArray), l.foldl (fun r n => r.push (UInt8.ofNat n.toNat)) r = ⟨r.data ++ (l.map (fun c => UInt8.ofNat c.toNat)).toArray⟩ := by
  induction l with
  | nil => intro r; simp
  | cons c l ih =>
    intro r
    rw [List.foldl_cons, ih]
    apply ByteArray.ext
    simp [ByteArray.push]
theorem sb_fold (l : List Int) : l.foldl (fun r n => r.push (UInt8.ofNat n.toNat)) ByteArray.empty = sb l := by
  rw [foldl_sb, sb]
  apply ByteArray.ext
  simp [ByteArray.empty, ByteArray.emptyWithCapacity]
  rfl
theorem conv_sb {v : Value} {l : List Int} (h : Sb W v l) : (convert 22 9 v).run Tryd.prog W = .ok (.string (sb l)) W := by
  rcases h with ⟨c, rfl, rfl⟩ | ⟨a, c, rfl, h1⟩
  · rw [run_convert_bytes_string W 22 9 5 none 0 c Tryd.underlying22 Tryd.underlying5 Tryd.underlying9]
    rfl
  · rw [run_convert_bytes_string W 22 9 5 _ _ c Tryd.underlying22 Tryd.underlying5 Tryd.underlying9, ← sb_fold]
    refine run_bytesToString W _ _ c l ?_
    have := run_loadCells_list (P := Tryd.prog) W a (u8s l) h1
    simpa [u8s] using this
theorem sb_tb (s : ByteArray) : sb (tb s) = s := by
  apply ByteArray.ext
  simp [sb, tb, Function.comp_def]
theorem tb_sb (l : List Int) (h : ∀ c ∈ l, 0 ≤ c ∧ c < 256) : tb (sb l) = l := by
  simp only [tb, sb, List.map_map]
  conv => rhs; rw [← List.map_id l]
  apply List.map_congr_left
  intro c hc
  obtain ⟨h0, h1⟩ := h c hc
  simp only [Function.comp, UInt8.toNat_ofNat', id]
  omega
theorem Sb.gr {v : Value} {l : List Int} (h : Sb W v l) (g : Gr (fun _ => False) W W') : Sb W' v l := by
  rcases h with h0 | ⟨a, c, rfl, h1⟩
  · exact .inl h0
  · refine .inr ⟨a, c, rfl, fun j u hj => ?_⟩
    have := h1 j u hj
    have hlt := World.block_lt_of_cell? _ _ this
    simp only [World.cell?] at this ⊢
    rw [g.block _ hlt (fun e => e)]
    exact this
theorem Sb.sv {v : Value} {l : List Int} (h : Sb W v l) : ∃ a c, v = .slice a l.length c ∧ (l ≠ [] → ∃ b off, a = some ⟨b, off, none⟩ ∧ b < W.heap.size ∧ ∀ i, i < l.length → W.cell? ⟨b, off + i, none⟩ = some (.int .u8 (l.getD i 0))) := by
  rcases h with ⟨c, rfl, rfl⟩ | ⟨a, c, rfl, h3⟩
  · exact ⟨none, c, rfl, fun e => absurd rfl e⟩
  · refine ⟨some a, c, rfl, fun hn => ?_⟩
    have hp : 0 < l.length := List.length_pos_iff.2 hn
    have h3' : ∀ i, i < l.length → W.cell? (a.add i) = some (.int .u8 (l.getD i 0)) := fun i hi => h3 i _ (by
      simp [u8s, List.getElem?_eq_getElem hi, List.getD_eq_getElem?_getD])
    obtain ⟨b, off, spot⟩ := a
    have hs : spot = none := by simpa [Addr.add] using World.cell?_spot (h3' 0 hp)
    subst hs
    have hl := World.block_lt_of_cell? _ _ (h3' 0 hp)
    exact ⟨b, off, rfl, by simpa [Addr.add] using hl, fun i hi => by simpa [Addr.add_lit] using h3' i hi⟩
theorem Bq.sb {base : Nat} {t : Tok} {v : Value} (h : Bq W base t v) : Sb W v t.b := by
  rcases h.2.2 with ⟨h1, h2⟩ | ⟨g, cap, cur, rfl, hb, hg, hc, hm, h5, h6⟩
  · exact .inl ⟨0, h1, List.eq_nil_of_length_eq_zero h2⟩
  · refine .inr ⟨⟨g, 0, none⟩, cap, rfl, fun j u hu => ?_⟩
    rw [Addr.add_lit, Nat.zero_add]
    have hj : j < t.b.length := by simpa using (List.getElem?_eq_some_iff.1 hu).1
    simp only [World.cell?, hg]
    rw [u8s, ← h6, Nat.mul_one, List.getElem?_take_of_lt hj] at hu
    simpa using hu
end Go.Proofs.YtbmbgnmkakkpfaaDoor

