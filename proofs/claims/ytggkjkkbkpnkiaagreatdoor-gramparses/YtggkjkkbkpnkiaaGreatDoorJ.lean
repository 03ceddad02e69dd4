/-
  Carried over from another seat of ours (J).
  Carried over from another seat of ours (K).
  Carried over from another seat of ours (N).
-/
import Derived.Test.YtggkjkkbkpnkiaaGreatDoorI
import Derived.Maps.AppendAt
import Derived.Laws.OwnMore
import Derived.Lib.AppendStr
import Derived.Lib.Walk
import Derived.Shelf.LaysM
import Derived.Shelf.Strconv.Itoa4
set_option linter.unusedVariables false
set_option linter.unusedSimpArgs false
namespace Go.Proofs.YtggkjkkbkpnkiaaGreatDoor
open Go.RowKit Go.Maps
variable {S S' : Nat → Prop} {W W1 W' : World}

def u8s (l : List Int) : List Value := l.map (Value.int .u8)
@[simp] theorem u8s_length (l : List Int) : (u8s l).length = l.length := by simp [u8s]
theorem u8s_append (a b : List Int) : u8s (a ++ b) = u8s a ++ u8s b := by simp [u8s]
/-- A row of bytes of the call's own. -/
structure Ob (base : Nat) (W : World) (v : Value) (l : List Int) : Prop where
  len : l.length ≤ 1000000
  row : W.ownsRow base 5 1 v l.length (u8s l)
theorem Ob.gr {base : Nat} {v : Value} {l : List Int} (h : Ob base W v l) (g : Gr S W W') (hs : ∀ k, base ≤ k → v.ownBlock = some k → ¬ S k) : Ob base W' v l :=
  ⟨h.len, ownsRow_of_block h.row (fun k h1 h2 => g.block k (ownsRow_lt h.row k h2).2 (hs k h1 h2))⟩
theorem Ob.mono {base base' : Nat} {v : Value} {l : List Int} (h : Ob base W v l) (hb : base' ≤ base) : Ob base' W v l := by
  refine ⟨h.len, h.row.1, ?_⟩
  rcases h.row.2 with h0 | ⟨g, cap, cur, rfl, hg, h2, h3⟩
  · exact .inl h0
  · exact .inr ⟨g, cap, cur, rfl, by omega, h2, h3⟩
theorem Ob.sv {base : Nat} {v : Value} {l : List Int} (h : Ob base W v l) : ∃ a cap, v = .slice a l.length cap := ownsRow_sv h.row
theorem Ob.lit (base : Nat) (W : World) (l : List Int) (hn : l.length ≤ 1000) (hb : base ≤ W.heap.size) (c : Array Value) (hc : c.toList = u8s l) (n : Nat) (hn' : n = l.length) :
    Ob base (W.alloc (.cells c 5)) (.slice (some ⟨W.heap.size, 0, none⟩) n n) l := by
  subst hn'
  refine ⟨by omega, ?_⟩
  have := World.ownsRow_lit (base := base) (e := 5) (size := 1) W c l.length hb (by unfold maxLen; omega) (by rw [← Array.length_toList, hc, u8s_length, Nat.mul_one])
  rwa [hc] at this
theorem Ob.grown {base : Nat} {v : Value} {l : List Int} (h : Ob base W v l) (hg : W.grownBy W' v.ownBlock) : Gr (fun k => base ≤ k) W W' := Gr.of_grown hg (fun k e => (ownsRow_lt h.row k e).1)

/-- Bytes in memory. -/
def Sb (W : World) (s : Value) (m : List Int) : Prop :=
  (∃ c, s = .slice none 0 c ∧ m = []) ∨ ∃ a c, s = .slice (some a) m.length c ∧ ∀ j u, (u8s m)[j]? = some u → W.cell? (a.add j) = some u
theorem Ob.sb {base : Nat} {v : Value} {l : List Int} (h : Ob base W v l) : Sb W v l := by
  rcases h.row.2 with ⟨h1, h2⟩ | ⟨g, cap, cur, rfl, hb, hg, hc, hm, h5, h6⟩
  · exact .inl ⟨0, h1, List.eq_nil_of_length_eq_zero h2⟩
  · refine .inr ⟨⟨g, 0, none⟩, cap, rfl, fun j u hu => ?_⟩
    rw [Addr.add_lit, Nat.zero_add]
    have hj : j < l.length := by simpa using (List.getElem?_eq_some_iff.1 hu).1
    simp only [World.cell?, hg]
    rw [← h6, Nat.mul_one, List.getElem?_take_of_lt hj] at hu
    simpa using hu
/-- Only the row's own block has turned, or new ones; the row lies where it lay, or anew. -/
structure Loc (v : Value) (W : World) (v' : Value) (W' : World) : Prop where
  gr : Gr (fun k => v.ownBlock = some k) W W'
  at_ : v'.ownBlock = v.ownBlock ∨ ∀ k, v'.ownBlock = some k → W.heap.size ≤ k
theorem Loc.refl (v : Value) (W : World) : Loc v W v W := ⟨Gr.refl _ _, .inl rfl⟩
theorem Loc.trans {v v1 v' : Value} (h : Loc v W v1 W1) (k : Loc v1 W1 v' W') : Loc v W v' W' := by
  refine ⟨h.gr.trans' k.gr (fun i hi e => ?_), ?_⟩
  · rcases h.at_ with h1 | h1
    · rw [← h1]; exact e
    · have := h1 i e; omega
  · rcases k.at_ with k1 | k1
    · rw [k1]; exact h.at_
    · exact .inr (fun i e => Nat.le_trans h.gr.size (k1 i e))
theorem i5 : (Tryz.prog.info? 5).map (fun i => (i.zero, i.size, i.bytes)) = some (some (.int .u8 0), 1, 1) := by kernel_rfl
theorem ap_run (w : World) (ty : TypeId) (base : Nat) (v s : Value) (l m : List Int) (hv : Ob base w v l) (hs : Sb w s m) (hlen : l.length + m.length ≤ 1000000) (hbase : base ≤ w.heap.size) :
    ∃ v' w', (Builtin.append_ #[25, 25] ty #[v, s]).run Tryz.prog w = .ok v' w' ∧ Ob base w' v' (l ++ m) ∧ Loc v w v' w' := by
  obtain ⟨i0, hi, hz0, hz1, hz2⟩ := info_parts i5
  rcases hs with ⟨c, rfl, rfl⟩ | ⟨a, cap, rfl, h3⟩
  · exact ⟨v, w, run_append_owned_none w base 25 ty 5 i0 1 Tryz.underlying25 hi v _ _ hv.row, by simpa using hv, Loc.refl _ _⟩
  · obtain ⟨v', w', hr, hown, hgrow, _, hloc⟩ := run_append_own_at (P := Tryz.prog) w base 25 ty 5 i0 (.int .u8 0) 1 1 Tryz.underlying25 hi hz0 hz1 hz2 rfl (by decide) v l.length (u8s l) hv.row a m.length cap (u8s m) (by simp)
      h3 (fun u hu => by obtain ⟨x, _, rfl⟩ := List.mem_map.1 hu; rfl) (by unfold maxLen; omega) (by omega) hbase
    refine ⟨v', w', hr, ⟨by simpa using hlen, ?_⟩, Gr.of_grown hgrow (fun k e => e), hloc.imp id (fun h k e => by rw [h] at e; cases e; exact Nat.le_refl _)⟩
    rw [u8s_append, List.length_append]; exact hown
/-- A text's bytes. -/
def tb (s : ByteArray) : List Int := s.data.toList.map fun b => (b.toNat : Int)
section
variable {w : World} {ops : Array Oper} {rest : List Oper} {o : Oper} {a : Act} {Q : Exit → Act → World → Prop} {K : Act → World → Prop} {E : Prop}
theorem wpList_ap (hgd : o.guard = none) (x y : Operand)
    (ho : o.op = .call { callee := .builtin .append, args := #[x, y], argTypes := #[25, 25] }) (base : Nat) (v s : Value) (l m : List Int) (hx : a.eval x = v) (hy : a.eval y = s)
    (hv : Ob base w v l) (hs : Sb w s m) (hlen : l.length + m.length ≤ 1000000) (hbase : base ≤ w.heap.size)
    (h : ∀ v' w', Ob base w' v' (l ++ m) → Loc v w v' w' → wpList Tryz.prog ops Q rest (a.put o.dst v') w') : wpList Tryz.prog ops Q (o :: rest) a w := by
  refine wpList_plain hgd fun K hK => ?_
  obtain ⟨v', w', hr, h1, h2⟩ := ap_run w o.type base v s l m hv hs hlen hbase
  unfold Oper.wp execOp
  simp only [ho, resolve, invoke, builtin, Sem.run_bind, Sem.run_pure, Result.andThen_ok, List.map_toArray, List.map_cons, List.map_nil, hx, hy, hr]
  exact hK _ _ (h v' w' h1 h2)
end

theorem foldl_sb (l : List Int) : ∀ (r : ByteArray), l.foldl (fun r n => r.push (UInt8.ofNat n.toNat)) r = ⟨r.data ++ (l.map (fun c => UInt8.ofNat c.toNat)).toArray⟩ := by
  induction l with
  | nil => intro r; simp
  | cons c l ih =>
    intro r
    rw [List.foldl_cons, ih]
    apply ByteArray.ext
    simp [ByteArray.push]
theorem sb_fold (l : List Int) : l.foldl (fun r n => r.push (UInt8.ofNat n.toNat)) ByteArray.empty = sb l := by
  rw [foldl_sb, sb]
  apply ByteArray.ext
  simp [ByteArray.empty, ByteArray.emptyWithCapacity]
  rfl
theorem conv_sb {v : Value} {l : List Int} (h : Sb W v l) : (convert 25 9 v).run Tryz.prog W = .ok (.string (sb l)) W := by
  rcases h with ⟨c, rfl, rfl⟩ | ⟨a, c, rfl, h1⟩
  · rw [run_convert_bytes_string W 25 9 5 none 0 c Tryz.underlying25 Tryz.underlying5 Tryz.underlying9]
    rfl
  · rw [run_convert_bytes_string W 25 9 5 _ _ c Tryz.underlying25 Tryz.underlying5 Tryz.underlying9, ← sb_fold]
    refine run_bytesToString W _ _ c l ?_
    have := run_loadCells_list (P := Tryz.prog) W a (u8s l) h1
    simpa [u8s] using this
theorem Sb.gr {v : Value} {l : List Int} (h : Sb W v l) (g : Gr (fun _ => False) W W') : Sb W' v l := by
  rcases h with h0 | ⟨a, c, rfl, h1⟩
  · exact .inl h0
  · refine .inr ⟨a, c, rfl, fun j u hj => ?_⟩
    have := h1 j u hj
    have hlt := World.block_lt_of_cell? _ _ this
    simp only [World.cell?] at this ⊢
    rw [g.block _ hlt (fun e => e)]
    exact this
theorem Sb.sv {v : Value} {l : List Int} (h : Sb W v l) : ∃ a c, v = .slice a l.length c ∧ (l ≠ [] → ∃ b off, a = some ⟨b, off, none⟩ ∧ b < W.heap.size ∧ ∀ i, i < l.length → W.cell? ⟨b, off + i, none⟩ = some (.int .u8 (l.getD i 0))) := by
  rcases h with ⟨c, rfl, rfl⟩ | ⟨a, c, rfl, h3⟩
  · exact ⟨none, c, rfl, fun e => absurd rfl e⟩
  · refine ⟨some a, c, rfl, fun hn => ?_⟩
    have hp : 0 < l.length := List.length_pos_iff.2 hn
    have h3' : ∀ i, i < l.length → W.cell? (a.add i) = some (.int .u8 (l.getD i 0)) := fun i hi => h3 i _ (by
      simp [u8s, List.getElem?_eq_getElem hi, List.getD_eq_getElem?_getD])
    obtain ⟨b, off, spot⟩ := a
    have hs : spot = none := by simpa [Addr.add] using World.cell?_spot (h3' 0 hp)
    subst hs
    have hl := World.block_lt_of_cell? _ _ (h3' 0 hp)
    exact ⟨b, off, rfl, by simpa [Addr.add] using hl, fun i hi => by simpa [Addr.add_lit] using h3' i hi⟩
theorem Bq.sb {base : Nat} {t : Tok} {v : Value} (h : Bq W base t v) : Sb W v t.b := by
  rcases h.2.2 with ⟨h1, h2⟩ | ⟨g, cap, cur, rfl, hb, hg, hc, hm, h5, h6⟩
  · exact .inl ⟨0, h1, List.eq_nil_of_length_eq_zero h2⟩
  · refine .inr ⟨⟨g, 0, none⟩, cap, rfl, fun j u hu => ?_⟩
    rw [Addr.add_lit, Nat.zero_add]
    have hj : j < t.b.length := by simpa using (List.getElem?_eq_some_iff.1 hu).1
    simp only [World.cell?, hg]
    rw [u8s, ← h6, Nat.mul_one, List.getElem?_take_of_lt hj] at hu
    simpa using hu
end Go.Proofs.YtggkjkkbkpnkiaaGreatDoor




namespace Go.Proofs.YtggkjkkbkpnkiaaGreatDoor
open Go.Shelf
end Go.Proofs.YtggkjkkbkpnkiaaGreatDoor
namespace Go.Proofs.YtggkjkkbkpnkiaaGreatDoor
open Go.RowKit Go.Maps
set_option maxHeartbeats 4000000 in
set_option maxRecDepth 100000 in
theorem clone1_c (s : ByteArray) (w : World) (h1 : 1 ≤ s.size) (h2 : s.size ≤ 140737488351232) :
    Calls Tryz.prog 59 #[.string s] w fun e w' => e = .returned (.string s) ∧ Below w.heap.size w w' := by
  obtain ⟨i0, hi, hz0, hz1, hz2⟩ := info_parts info5
  have hinfo : (Tryz.prog.info? 5).map (·.size) = some 1 := by rw [hi]; simp [hz1]
  have hco : Tryz.prog.cellsOf 5 = 1 := by simp [Program.cellsOf, hi, hz1]
  have h0 : ((s.size : Int) == 0) = false := beq_eq_false_iff_ne.2 (by omega)
  obtain ⟨M, hM⟩ : ∃ M, M = madeCells (Value.int .u8 0).cells (((s.size : Nat) : Int).toNat * i0.size) := ⟨_, rfl⟩
  have hMs : M.size = s.size := by rw [hM, size_madeCells, hz1]; simp
  have hmk : ∀ W : World, (Instr.makeSlice 25 (.int .i64 (s.size : Int)) (.int .i64 (s.size : Int))).run Tryz.prog W = .ok (.slice (some ⟨W.heap.size, 0, none⟩) s.size s.size) (W.alloc (.cells M 5)) := fun W => by
    have h := run_make (P := Tryz.prog) W 25 5 i0 (.int .u8 0) Tryz.underlying25 hi hz0 .i64 .i64 (s.size : Int) (s.size : Int) (by omega) (by omega) (by rw [hz2]; omega) (by omega)
    rw [← hM] at h
    simpa using h
  clear hM
  have hcp := Lib.run_copy_row_string (P := Tryz.prog) (w.alloc (.cells M 5)) 25 9 3 5 w.heap.size 0 s.size s.size s M 5 Tryz.underlying25 hinfo (heap_alloc_new w _) (Nat.le_refl _) (by omega)
  obtain ⟨Y, hY⟩ : ∃ Y, Y = (M.toList.take 0 ++ Lib.byteCells s.data.toList ++ M.toList.drop (0 + s.size)).toArray := ⟨_, rfl⟩
  rw [← hY] at hcp
  have hYl : Y.toList = Lib.byteCells s.data.toList := by
    rw [hY, List.toList_toArray, List.take_zero, List.nil_append, List.drop_of_length_le (by rw [Array.length_toList]; omega), List.append_nil]
  have hYs : Y.size = s.size := by rw [← Array.length_toList, hYl, Lib.byteCells_length, ← Lib.size_eq]
  have hgY : ((w.alloc (.cells M 5)).setRow w.heap.size Y).heap[w.heap.size]? = some (.cells Y 5 (0, 0)) := setRow_heap _ _ M _ 5 (0, 0) (heap_alloc_new w _)
  have hne : s.data.toList ≠ [] := by
    intro e
    have h3 : s.size = s.data.toList.length := Lib.size_eq s
    rw [e] at h3
    have h4 : s.size = 0 := h3
    omega
  have hUS := Lib.run_unsafeString_row (P := Tryz.prog) ((w.alloc (.cells M 5)).setRow w.heap.size Y) 98 3 9 5 Tryz.underlying98 hco w.heap.size Y.size (by unfold World.shape?; rw [hgY]) s.data.toList hne (by rw [← Lib.size_eq]; omega) (by rw [← Lib.size_eq]; omega)
    (fun j x hx => Lib.cells_of_row hgY Y.size j _ (by rw [List.take_of_length_le (by rw [Array.length_toList]; exact Nat.le_refl _), hYl]; simp [Lib.byteCells, hx]))
  rw [← Lib.size_eq] at hUS
  clear hY
  go_enter Tryz.func59, Tryz.ntmps59
  go_wp2
  go_ret
  have hb1 : Below w.heap.size w (w.alloc (.cells M 5)) := (Below.refl _ w).alloc (Nat.le_refl _) _
  have hb2 : Below w.heap.size (w.alloc (.cells M 5)) ((w.alloc (.cells M 5)).setRow w.heap.size Y) := ⟨rfl, rfl, rfl, by simp, fun k hk => setRow_other _ _ _ _ (by omega)⟩
  exact ⟨rfl, Lib.below_freeze (hb1.trans hb2) (p := ⟨w.heap.size, 0, none⟩) (Nat.le_refl _) _⟩
theorem clone2_c (s : ByteArray) (w : World) (h1 : 1 ≤ s.size) (h2 : s.size ≤ 140737488351232) :
    Calls Tryz.prog 44 #[.string s] w fun e w' => e = .returned (.string s) ∧ Gr (fun _ => False) w w' := by
  go_enter Tryz.func44, Tryz.ntmps44
  go_wp2_with (first | (go_at_call 59; refine (clone1_c s _ h1 h2).mono ?_; rintro e w' ⟨rfl, hb⟩))
  go_ret
  exact ⟨rfl, Gr.of_below hb _⟩

theorem clone_e (w : World) : Calls Tryz.prog 44 #[.string e0] w fun e w' => e = .returned (.string e0) ∧ Gr (fun _ => False) w w' := by
  go_enter Tryz.func44, Tryz.ntmps44
  go_wp2_with (first | (go_at_call 59; go_in))
  go_ret
  exact ⟨rfl, Gr.refl _ _⟩
theorem clone_g (s : ByteArray) (w : World) (h2 : s.size ≤ 140737488351232) : Calls Tryz.prog 44 #[.string s] w fun e w' => e = .returned (.string s) ∧ Gr (fun _ => False) w w' := by
  by_cases h : 1 ≤ s.size
  · exact clone2_c s w h h2
  · have : s = e0 := by
      apply ByteArray.ext
      apply Array.eq_empty_of_size_eq_zero
      show s.size = 0
      omega
    subst this
    exact clone_e w
end Go.Proofs.YtggkjkkbkpnkiaaGreatDoor




namespace Go.Proofs.YtggkjkkbkpnkiaaGreatDoor
open Go.RowKit Go.Maps

theorem tkcs_at {W : World} {base : Nat} : ∀ {ts : List Tok} {vs : List Value}, Bqs W base ts vs → ∀ (k : Nat) (t : Tok), ts[k]? = some t → ∃ v, Bq W base t v ∧ ∀ j u, (tkc t v)[j]? = some u → (tkcs ts vs)[k * 5 + j]? = some u
  | [], [], _, k, t, h => by simp at h
  | a :: ts, b :: vs, hb, 0, t, h => by
    simp at h; subst h
    refine ⟨b, hb.1, fun j u hj => ?_⟩
    rw [tkcs, Nat.zero_mul, Nat.zero_add, List.getElem?_append_left]
    · exact hj
    · exact (List.getElem?_eq_some_iff.1 hj).1
  | a :: ts, b :: vs, hb, k + 1, t, h => by
    obtain ⟨v, h1, h2⟩ := tkcs_at hb.2 k t (by simpa using h)
    refine ⟨v, h1, fun j u hj => ?_⟩
    rw [tkcs, List.getElem?_append_right (by simp; omega)]
    rw [← h2 j u hj]
    congr 1
    simp
    omega
  | [], _ :: _, h, _, _, _ => h.elim
  | _ :: _, [], h, _, _, _ => h.elim
/-- A token of a row: its five cells. -/
def TkAt (W : World) (base g k : Nat) (t : Tok) : Prop := ∃ a c, Bq W base t (.slice a t.b.length c) ∧ W.cell? ⟨g, k * 5, none⟩ = some (.int .i64 t.k) ∧ W.cell? ⟨g, k * 5 + 1, none⟩ = some (.string t.s) ∧ W.cell? ⟨g, k * 5 + 2, none⟩ = some (.int .i64 t.n) ∧
  W.cell? ⟨g, k * 5 + 3, none⟩ = some (.slice a t.b.length c) ∧ W.cell? ⟨g, k * 5 + 4, none⟩ = some (.int .i64 (t.at' : Int))
theorem Toks.sv {W : World} {base : Nat} {sv : Value} {ts : List Tok} {vs : List Value} (h : Toks W base sv ts vs) : ∃ a c, sv = .slice a ts.length c := ownsRow_sv h.1
theorem Toks.row {W : World} {base : Nat} {ts : List Tok} {vs : List Value} {a : Option Addr} {c : Nat} (h : Toks W base (.slice a ts.length c) ts vs) (hne : 0 < ts.length) :
    ∃ g, a = some ⟨g, 0, none⟩ ∧ g < W.heap.size ∧ ts.length ≤ c ∧ ∀ k t, ts[k]? = some t → TkAt W base g k t := by
  rcases h.1.2 with ⟨e, h0⟩ | ⟨g, cap, cur, e, hb, hg, hc, hm, h5, h6⟩
  · omega
  · simp only [Value.slice.injEq, true_and] at e
    obtain ⟨rfl, rfl⟩ := e
    refine ⟨g, rfl, (Array.getElem?_eq_some_iff.1 hg).1, hc, fun k t ht => ?_⟩
    obtain ⟨v, h1, h2⟩ := tkcs_at h.2 k t ht
    obtain ⟨⟨a, c, rfl⟩, h1'⟩ := h1
    have hcell : ∀ j u, (tkc t (.slice a t.b.length c))[j]? = some u → W.cell? ⟨g, k * 5 + j, none⟩ = some u := by
      intro j u hu
      have e := h2 j u hu
      rw [← h6] at e
      have hlt : k * 5 + j < ts.length * 5 := by
        rcases Nat.lt_or_ge (k * 5 + j) (ts.length * 5) with h | h
        · exact h
        · rw [List.getElem?_eq_none (by simp; omega)] at e; cases e
      rw [List.getElem?_take_of_lt hlt] at e
      simp only [World.cell?, hg]
      simpa using e
    exact ⟨a, c, ⟨⟨_, _, rfl⟩, h1'⟩, hcell 0 _ rfl, hcell 1 _ rfl, hcell 2 _ rfl, hcell 3 _ rfl, hcell 4 _ rfl⟩
theorem TkAt.gr {W W' : World} {base g k : Nat} {t : Tok} (h : TkAt W base g k t) (gr : Gr (fun _ => False) W W') : TkAt W' base g k t := by
  obtain ⟨a, c, hb, c0, c1, c2, c3, c4⟩ := h
  have kp : ∀ o u, W.cell? ⟨g, o, none⟩ = some u → W'.cell? ⟨g, o, none⟩ = some u := fun o u hc => by
    have hlt := World.block_lt_of_cell? _ _ hc
    simp only [World.cell?] at hc ⊢
    rw [gr.block g hlt (fun e => e)]; exact hc
  exact ⟨a, c, ⟨hb.1, ownsRow_gr hb.2 gr (fun _ _ e => e)⟩, kp _ _ c0, kp _ _ c1, kp _ _ c2, kp _ _ c3, kp _ _ c4⟩

def isErr (i : Nat) (c : Int) : Except (Nat × Int) (List Tok) → Bool
  | .error (j, d) => (j == i) && (d == c)
  | _ => false
theorem list_ba {s t : ByteArray} (h : s.toList = t.data.toList) : s = t := by
  rw [ByteArray.toList_eq] at h
  apply ByteArray.ext
  exact Array.toList_inj.1 h
theorem scanE (W : World) (s : ByteArray) (i : Nat) (c : Int) (h : isErr i c (scanV s) = true) (hE : Er W) (hS : Sg W) : Calls Tryz.prog 10 #[.string s] W fun e w' => e = .returned (.tuple #[nl, .int .i64 (i : Int), .int .i64 c]) ∧ Gr (fun _ => False) W w' := by
  refine (scan_c W s hE hS).mono ?_
  intro e w' h2
  cases hp : scanV s with
  | ok l => rw [hp] at h; cases h
  | error p =>
    obtain ⟨j, d⟩ := p
    rw [hp] at h h2
    simp [isErr] at h
    obtain ⟨rfl, rfl⟩ := h
    exact h2
end Go.Proofs.YtggkjkkbkpnkiaaGreatDoor



