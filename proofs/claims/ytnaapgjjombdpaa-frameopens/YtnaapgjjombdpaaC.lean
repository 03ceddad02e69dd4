/-
  Rows of bytes of the call's own; append; bytes as a text; bytes.Clone.
-/
import Derived.Test.YtnaapgjjombdpaaB
import Derived.Maps.AppendAt
import Derived.Laws.BytesArg
import Derived.Laws.OwnMore
import Derived.Lib.Walk
namespace Go.Proofs.Ytnaapgjjombdpaa
open Go.RowKit Go.Maps
variable {S S' : Nat → Prop} {W W1 W' : World}

def bs (l : List Nat) : List Value := l.map (fun (x : Nat) => Value.int .u8 (x : Int))
theorem bs_get (l : List Nat) (i : Nat) (h : i < l.length) : (bs l)[i]? = some (.int .u8 ((l.getD i 0 : Nat) : Int)) := by
  simp [bs, List.getElem?_eq_getElem h, List.getD_eq_getElem?_getD]
@[simp] theorem bs_length (l : List Nat) : (bs l).length = l.length := by simp [bs]
theorem bs_append (a b : List Nat) : bs (a ++ b) = bs a ++ bs b := by simp [bs]

/-- A row of bytes of the call's own. -/
structure Ow (base : Nat) (W : World) (v : Value) (l : List Nat) : Prop where
  byte : ∀ x ∈ l, x < 256
  len : l.length ≤ 140737488355328
  row : W.ownsRow base 5 1 v l.length (bs l)
theorem Ow.sl {base : Nat} {v : Value} {l : List Nat} (h : Ow base W v l) : Sl W v l := by
  refine ⟨h.byte, h.len, ?_⟩
  rcases h.row.2 with ⟨h1, h2⟩ | ⟨g, cap, cur, rfl, hb, hg, hc, hm, _⟩
  · exact .inl ⟨h1, List.length_eq_zero_iff.1 h2⟩
  · refine .inr ⟨⟨g, 0, none⟩, cap, rfl, hc, by unfold maxLen at hm; omega, fun i hi => ?_⟩
    exact h.row.cells rfl i _ (bs_get l i hi)
theorem Ow.of_block {base : Nat} {v : Value} {l : List Nat} (h : Ow base W v l) (hb : ∀ k, base ≤ k → v.ownBlock = some k → W'.heap[k]? = W.heap[k]?) : Ow base W' v l := by
  refine ⟨h.byte, h.len, h.row.1, ?_⟩
  rcases h.row.2 with h0 | ⟨g, cap, cur, rfl, hg, h2, h3⟩
  · exact .inl h0
  · exact .inr ⟨g, cap, cur, rfl, hg, (hb g hg rfl).trans h2, h3⟩
theorem Ow.lt {base : Nat} {v : Value} {l : List Nat} (h : Ow base W v l) (k : Nat) (hk : v.ownBlock = some k) : base ≤ k ∧ k < W.heap.size := h.row.lt k hk
theorem Ow.gr {base : Nat} {v : Value} {l : List Nat} (h : Ow base W v l) (g : Gr S W W') (hs : ∀ k, base ≤ k → v.ownBlock = some k → ¬ S k) : Ow base W' v l :=
  h.of_block (fun k h1 h2 => g.block k (h.lt k h2).2 (hs k h1 h2))
theorem Ow.g0 {base : Nat} {v : Value} {l : List Nat} (h : Ow base W v l) (g : G0 W W') : Ow base W' v l := h.gr g (fun _ _ _ e => e)
theorem Ow.mono {base base' : Nat} {v : Value} {l : List Nat} (h : Ow base W v l) (hb : base' ≤ base) : Ow base' W v l := by
  refine ⟨h.byte, h.len, h.row.1, ?_⟩
  rcases h.row.2 with h0 | ⟨g, cap, cur, rfl, hg, h2, h3⟩
  · exact .inl h0
  · exact .inr ⟨g, cap, cur, rfl, by omega, h2, h3⟩
theorem Ow.nil (base : Nat) (W : World) : Ow base W (.slice none 0 0) [] := ⟨by simp, by simp, World.ownsRow_nil _ _ _ _⟩
theorem Ow.lit (base : Nat) (W : World) (l : List Nat) (hl : ∀ x ∈ l, x < 256) (hn : l.length ≤ 1000) (hb : base ≤ W.heap.size) (c : Array Value) (hc : c.toList = bs l) (n : Nat) (hn' : n = l.length) :
    Ow base (W.alloc (.cells c 5)) (.slice (some ⟨W.heap.size, 0, none⟩) n n) l := by
  subst hn'
  refine ⟨hl, by omega, ?_⟩
  have := World.ownsRow_lit (base := base) (e := 5) (size := 1) W c l.length hb (by unfold maxLen; omega) (by rw [← Array.length_toList, hc, bs_length, Nat.mul_one])
  rwa [hc] at this

theorem Ow.grown {base : Nat} {v : Value} {l : List Nat} (h : Ow base W v l) (hg : W.grownBy W' v.ownBlock) : Gr (fun k => base ≤ k) W W' := Gr.of_grown hg (fun k e => (h.lt k e).1)
/-- What is written from B on, is new to those who were there ahead of it. -/
theorem Gr.new {B : Nat} (h : G0 W W1) (k : Gr (fun i => B ≤ i) W1 W') (hB : W.heap.size ≤ B) : G0 W W' := h.trans' k (fun i hi e => by omega)
theorem info5 : (Try.prog.info? 5).map (fun i => (i.zero, i.size, i.bytes)) = some (some (.int .u8 0), 1, 1) := by kernel_rfl

theorem app_run (w : World) (ty : TypeId) (base : Nat) (v s : Value) (l m : List Nat) (hv : Ow base w v l) (hs : Sl w s m) (hlen : l.length + m.length ≤ 140737488355328) (hbase : base ≤ w.heap.size) :
    ∃ v' w', (Builtin.append_ #[22, 22] ty #[v, s]).run Try.prog w = .ok v' w' ∧ Ow base w' v' (l ++ m) ∧ w.grownBy w' v.ownBlock ∧ (v' = .slice none 0 0 → v = .slice none 0 0 ∧ m = []) := by
  obtain ⟨i0, hi, hz0, hz1, hz2⟩ := info_parts info5
  have hby : ∀ x ∈ l ++ m, x < 256 := fun x hx => (List.mem_append.1 hx).elim (hv.byte x) (hs.byte x)
  rcases hs.at' with ⟨rfl, rfl⟩ | ⟨a, cap, rfl, h1, h2, h3⟩
  · refine ⟨v, w, run_append_owned_none w base 22 ty 5 i0 1 Try.underlying22 hi v _ _ hv.row, by simpa using hv, ⟨rfl, rfl, rfl, Nat.le_refl _, fun _ _ _ => rfl⟩, fun e => ⟨e, rfl⟩⟩
  · obtain ⟨v', w', hr, hown, hgrow, hnil, _⟩ := run_append_own_at (P := Try.prog) w base 22 ty 5 i0 (.int .u8 0) 1 1 Try.underlying22 hi hz0 hz1 hz2 rfl (by decide) v l.length (bs l) hv.row a m.length cap (bs m) (by simp)
      (fun j u hj => by
        have hjm : j < m.length := by simpa using (List.getElem?_eq_some_iff.1 hj).1
        rw [bs_get m j hjm] at hj
        rw [← hj]; exact h3 j hjm)
      (fun u hu => by obtain ⟨x, _, rfl⟩ := List.mem_map.1 hu; rfl) (by unfold maxLen; omega) (by omega) hbase
    refine ⟨v', w', hr, ⟨hby, by simpa using hlen, ?_⟩, hgrow, fun e => ?_⟩
    · rw [bs_append, List.length_append]; exact hown
    · obtain ⟨e1, e2⟩ := hnil.1 e
      exact ⟨e1, List.length_eq_zero_iff.1 e2⟩
theorem wpList_app (w : World) {ops : Array Oper} {rest : List Oper} {o : Oper} {a : Act} {Q : Exit → Act → World → Prop} (hgd : o.guard = none) (x y : Operand)
    (ho : o.op = .call { callee := .builtin .append, args := #[x, y], argTypes := #[22, 22] }) (base : Nat) (v s : Value) (l m : List Nat) (hx : a.eval x = v) (hy : a.eval y = s)
    (hv : Ow base w v l) (hs : Sl w s m) (hlen : l.length + m.length ≤ 140737488355328) (hbase : base ≤ w.heap.size)
    (h : ∀ v' w', Ow base w' v' (l ++ m) → w.grownBy w' v.ownBlock → (v' = .slice none 0 0 → v = .slice none 0 0 ∧ m = []) → wpList Try.prog ops Q rest (a.put o.dst v') w') :
    wpList Try.prog ops Q (o :: rest) a w := by
  refine wpList_plain hgd fun K hK => ?_
  obtain ⟨v', w', hr, h1, h2, h3⟩ := app_run w o.type base v s l m hv hs hlen hbase
  unfold Oper.wp execOp
  simp only [ho, resolve, invoke, builtin, Sem.run_bind, Sem.run_pure, Result.andThen_ok, List.map_toArray, List.map_cons, List.map_nil, hx, hy, hr]
  exact hK _ _ (h v' w' h1 h2 h3)

/-! ### Bytes as a text -/
def str (l : List Nat) : ByteArray := ⟨(l.map UInt8.ofNat).toArray⟩
theorem str_inj {a b : List Nat} (ha : ∀ x ∈ a, x < 256) (hb : ∀ x ∈ b, x < 256) (h : str a = str b) : a = b := by
  have h1 : a.map UInt8.ofNat = b.map UInt8.ofNat := by
    have := congrArg (fun s : ByteArray => s.data.toList) h
    simpa [str] using this
  have back : ∀ l : List Nat, (∀ x ∈ l, x < 256) → (l.map UInt8.ofNat).map UInt8.toNat = l := by
    intro l hl
    rw [List.map_map]
    conv => rhs; rw [← List.map_id l]
    refine List.map_congr_left fun x hx => ?_
    have := hl x hx
    simp only [Function.comp, UInt8.toNat_ofNat', id]
    omega
  rw [← back a ha, ← back b hb, h1]
theorem conv {v : Value} {l : List Nat} (h : Sl W v l) : (convert 22 9 v).run Try.prog W = .ok (.string (str l)) W := by
  rcases h.at' with ⟨rfl, rfl⟩ | ⟨a, cap, rfl, h1, h2, h3⟩
  · rw [run_convert_bytes_string W 22 9 5 none 0 0 Try.underlying22 Try.underlying5 Try.underlying9]; rfl
  · have := run_convert_bytes_back (P := Try.prog) W 22 9 5 a cap (l.map UInt8.ofNat) Try.underlying22 Try.underlying5 Try.underlying9 (fun j hj => by
      rw [List.length_map] at hj
      rw [h3 j hj, List.getD_eq_getElem?_getD, List.getElem?_eq_getElem hj]
      have := h.byte _ (List.getElem_mem hj)
      simp only [List.getElem_map, Option.getD_some, UInt8.toNat_ofNat']
      congr 2
      omega)
    rw [List.length_map] at this
    exact this

/-! ### bytes.Clone -/
theorem q22 (w : World) (a : Option Addr) (n c n' c' : Nat) : (binOp .eql 22 (.slice a n c) (.slice none n' c')).run Try.prog w = .ok (.bool a.isNone) w := Lib.run_eql_slice_nil w _ _ a n c n' c' Try.underlying22
set_option maxHeartbeats 1000000 in
theorem clone_c (W : World) (v : Value) (l : List Nat) (h : Sl W v l) : Calls Try.prog 27 #[v] W fun e w' => ∃ v', e = .returned v' ∧ Ow W.heap.size w' v' l ∧ G0 W w' := by
  have q := q22
  have h0 := h
  rcases h.at' with ⟨rfl, rfl⟩ | ⟨a, cap, rfl, h1, h2, h3⟩
  · go_enter Try.func27, Try.ntmps27
    go_wp2
    go_ret
    exact ⟨_, rfl, Ow.nil _ _, Gr.refl _ _⟩
  · clear h
    have ho := Ow.lit W.heap.size W [] (by simp) (by simp) (Nat.le_refl _) #[] rfl 0 rfl
    go_enter Try.func27, Try.ntmps27
    go_wp2_with (at_builtin; refine wpList_app _ rfl _ _ rfl W.heap.size _ _ [] l rfl rfl ho (h0.g0 (Gr.alloc _ _ _)) (by simpa using h0.len) (by simp) ?_; intro v' w1 hown hgrow hnil)
    go_ret
    refine ⟨v', rfl, by simpa using hown, ?_⟩
    exact (Gr.alloc W _ _).new (ho.grown hgrow) (Nat.le_refl _)
end Go.Proofs.Ytnaapgjjombdpaa
