/-
  Carried over from another seat of ours (GQ).
  Carried over from another seat of ours (GU).
  A region that draws its order, where a fact holds behind every operation.
-/
import Derived.Test.YtggkjkkbkpnkiaaGreatDoorGN
import Derived.Deep.RegionHeld3
set_option linter.unusedVariables false
set_option linter.unusedSimpArgs false
namespace Go.Proofs.YtggkjkkbkpnkiaaGreatDoor
open Go.RowKit Go.Maps
variable {W W' : World}

theorem info9 : (Tryz.prog.info? 9).map (fun i => (i.zero, i.size, i.bytes)) = some (some (.string ⟨#[]⟩), 1, 16) := by kernel_rfl
/-- A row of texts of the call's own. -/
structure Ns (base : Nat) (W : World) (v : Value) (ns : List ByteArray) : Prop where
  len : ns.length ≤ 40000
  row : W.ownsRow base 9 1 v ns.length (ns.map Value.string)
  bas : base ≤ W.heap.size
theorem Ns.gr {base : Nat} {v : Value} {ns : List ByteArray} {S : Nat → Prop} (h : Ns base W v ns) (g : Gr S W W') (hs : ∀ k, base ≤ k → ¬ S k) : Ns base W' v ns := ⟨h.len, ownsRow_gr h.row g hs, Nat.le_trans h.bas g.size⟩
theorem Ns.g0 {base : Nat} {v : Value} {ns : List ByteArray} (h : Ns base W v ns) (g : Gr (fun _ => False) W W') : Ns base W' v ns := h.gr g (fun _ _ e => e)
theorem Ns.sv {base : Nat} {v : Value} {ns : List ByteArray} (h : Ns base W v ns) : ∃ a c, v = .slice a ns.length c := ownsRow_sv h.row
theorem Ns.nil (base : Nat) (W : World) (hb : base ≤ W.heap.size) : Ns base W nl [] := ⟨by simp, World.ownsRow_nil _ _ _ _, hb⟩
theorem ns_run (w : World) (ty : TypeId) (base : Nat) (v : Value) (ns : List ByteArray) (b : Nat) (s : ByteArray) (hv : Ns base w v ns) (hs : w.cell? ⟨b, 0, none⟩ = some (.string s)) (hl : ns.length < 40000) :
    ∃ v' w', (Builtin.append_ #[101, 101] ty #[v, .slice (some ⟨b, 0, none⟩) 1 1]).run Tryz.prog w = .ok v' w' ∧ Ns base w' v' (ns ++ [s]) ∧ Gr (fun k => base ≤ k) w w' := by
  obtain ⟨i0, hi, hz0, hz1, hz2⟩ := info_parts info9
  obtain ⟨v', w', hr, hown, hgrow, _, hloc⟩ := run_append_own_at (P := Tryz.prog) w base 101 ty 9 i0 (.string ⟨#[]⟩) 1 16 Tryz.underlying101 hi hz0 hz1 hz2 rfl (by decide) v ns.length (ns.map Value.string) hv.row ⟨b, 0, none⟩ 1 1 [.string s] rfl
    (fun j u hj => by
      cases j with
      | zero => simp at hj; subst hj; exact hs
      | succ j => simp at hj) (fun u hu => by simp at hu; subst hu; rfl) (by unfold maxLen; omega) (by omega) hv.bas
  have g : Gr (fun k => base ≤ k) w w' := Gr.of_grown hgrow (fun k e => (ownsRow_lt hv.row k e).1)
  refine ⟨v', w', hr, ⟨by simp; omega, ?_, Nat.le_trans hv.bas g.size⟩, g⟩
  rw [List.length_append, List.map_append]; exact hown
section
variable {w : World} {ops : Array Oper} {rest : List Oper} {o : Oper} {a : Act} {Q : Exit → Act → World → Prop} {K : Act → World → Prop} {E : Prop}
theorem wpList_ns (hgd : o.guard = none) (x y : Operand)
    (ho : o.op = .call { callee := .builtin .append, args := #[x, y], argTypes := #[101, 101] }) (base : Nat) (v : Value) (ns : List ByteArray) (b : Nat) (s : ByteArray) (hx : a.eval x = v) (hy : a.eval y = .slice (some ⟨b, 0, none⟩) 1 1)
    (hv : Ns base w v ns) (hs : w.cell? ⟨b, 0, none⟩ = some (.string s)) (hl : ns.length < 40000)
    (h : ∀ v' w', Ns base w' v' (ns ++ [s]) → Gr (fun k => base ≤ k) w w' → wpList Tryz.prog ops Q rest (a.put o.dst v') w') : wpList Tryz.prog ops Q (o :: rest) a w := by
  refine wpList_plain hgd fun K hK => ?_
  obtain ⟨v', w', hr, h1, h2⟩ := ns_run w o.type base v ns b s hv hs hl
  unfold Oper.wp execOp
  simp only [ho, resolve, invoke, builtin, Sem.run_bind, Sem.run_pure, Result.andThen_ok, List.map_toArray, List.map_cons, List.map_nil, hx, hy, hr]
  exact hK _ _ (h v' w' h1 h2)
theorem step_ns (hgd : o.guard = none) (x y : Operand)
    (ho : o.op = .call { callee := .builtin .append, args := #[x, y], argTypes := #[101, 101] }) (base : Nat) (v : Value) (ns : List ByteArray) (b : Nat) (s : ByteArray) (hx : a.eval x = v) (hy : a.eval y = .slice (some ⟨b, 0, none⟩) 1 1)
    (hv : Ns base w v ns) (hs : w.cell? ⟨b, 0, none⟩ = some (.string s)) (hl : ns.length < 40000)
    (h : ∀ v' w', Ns base w' v' (ns ++ [s]) → Gr (fun k => base ≤ k) w w' → K (a.put o.dst v') w') :
    if Region.wanted o (yielded ops a.tmps) = true then Oper.wp Tryz.prog o a w K Q else E := by
  have hw : Region.wanted o (yielded ops a.tmps) = true := by simp [Region.wanted, hgd]
  rw [if_pos hw]
  obtain ⟨v', w', hr, h1, h2⟩ := ns_run w o.type base v ns b s hv hs hl
  unfold Oper.wp execOp
  simp only [ho, resolve, invoke, builtin, Sem.run_bind, Sem.run_pure, Result.andThen_ok, List.map_toArray, List.map_cons, List.map_nil, hx, hy, hr]
  exact h v' w' h1 h2
end

/-- Does a tree bear a name? -/
def isNm (k : Int) : Bool := (k == 2) || (k == 3) || (k == 11) || (k == 17)
def nmOf : Tr → List ByteArray
  | .mk k s _ _ _ => if isNm k = true then [s] else []
def nms (l : List Tr) : List ByteArray := l.flatMap nmOf
theorem nms_len : ∀ l : List Tr, (nms l).length ≤ l.length
  | [] => Nat.le_refl _
  | .mk k s n b l :: r => by
    have h := nms_len r
    have e : nms (.mk k s n b l :: r) = nmOf (.mk k s n b l) ++ nms r := by simp [nms]
    rw [e, List.length_append]
    have h2 : (nmOf (.mk k s n b l)).length ≤ 1 := by rw [nmOf]; split <;> simp
    rw [List.length_cons]
    omega
theorem nms_app (a b : List Tr) : nms (a ++ b) = nms a ++ nms b := by simp [nms]

abbrev ptr (g o : Nat) : Value := .pointer (some ⟨g, o, none⟩)
/-- A tree in its five cells. -/
def TAt (N : Nat) (W : World) (g o : Nat) (T : Tr) : Prop := ∃ v, Rep (fun z => z < N) W T v ∧ ∀ j u, (cellsOf v)[j]? = some u → W.cell? ⟨g, o + j, none⟩ = some u
theorem TAt.gr {N g o : Nat} {T : Tr} {S : Nat → Prop} (h : TAt N W g o T) (gr : Gr S W W') (hs : ∀ k, k < N → ¬ S k) (hg : g < N) : TAt N W' g o T := by
  obtain ⟨v, h1, h2⟩ := h
  exact ⟨v, h1.turn (fun z hz hl => ⟨hz, gr.block z hl (hs z hz)⟩), fun j u hj => cell_gr (h2 j u hj) gr (hs g hg)⟩
theorem one_cell {w : World} {b : Nat} {x : Value} {t : TypeId} (h : w.heap[b]? = some (.cells #[x] t (0, 0))) : w.cell? ⟨b, 0, none⟩ = some x ∧ w.frozen? ⟨b, 0, none⟩ = false ∧ b < w.heap.size := by
  refine ⟨by simp [World.cell?, h], by simp [World.frozen?, h], (Array.getElem?_eq_some_iff.1 h).1⟩
end Go.Proofs.YtggkjkkbkpnkiaaGreatDoor



namespace Go.Proofs.YtggkjkkbkpnkiaaGreatDoor
open Go.RowKit Go.Maps
section
variable {P : Program} {ops : Array Oper} {Q : Exit → Act → World → Prop} {md : Region.Mode} {T : World → Prop} {L : Nat}
/-- Whatever order comes; T holds behind each operation but number L. -/
def wpAnyL (P : Program) (md : Region.Mode) (ops : Array Oper) (Q : Exit → Act → World → Prop) (T : World → Prop) (L : Nat) : Nat → Array Bool → Act → World → Prop
  | 0, listed, a, w => Region.ready md ops listed = [] ∧ Q .normal a w
  | f + 1, listed, a, w => (Region.ready md ops listed = [] → Q .normal a w) ∧ ∀ i ∈ Region.ready md ops listed, wpOp P ops Q i (fun a' w' => (i ≠ L → T w') ∧ wpAnyL P md ops Q T L f (listed.setIfInBounds i true) a' w') a w
theorem wpAny_of_L : ∀ (f : Nat) (listed : Array Bool) (a : Act) (w : World), wpAnyL P md ops Q T L f listed a w → wpAny P md ops Q f listed a w
  | 0, _, _, _, h => h
  | f + 1, _, _, _, h => ⟨h.1, fun i hi => wpOp_mono (fun a' w' h' => wpAny_of_L f _ a' w' h'.2) (h.2 i hi)⟩
/-- Does number L wait for number i? -/
def waitsFor (md : Region.Mode) (ops : Array Oper) (L i : Nat) : Bool := ((ops[L]?).map (·.after.any fun e => Region.binds md e && e.on == i)).getD false
theorem waits_ready {i : Nat} (hL : waitsFor md ops L i = true) {listed : Array Bool} (h : L ∈ Region.ready md ops listed) : listed.getD i false = true := by
  obtain ⟨_, o, ho, hall⟩ := mem_ready.1 h
  unfold waitsFor at hL
  rw [ho] at hL
  simp only [Option.map_some, Option.getD_some, Array.any_eq_true, Bool.and_eq_true, beq_iff_eq] at hL
  obtain ⟨x, hx, hb, he⟩ := hL
  rw [← he]
  exact hall _ (Array.getElem_mem hx) hb
theorem wpAnyL_take' {i : Nat} {oi : Oper} {v : Value} (hi : ops[i]? = some oi) (hsel : ∀ (j : Nat) (o : Oper) cs b, ops[j]? = some o → o.op ≠ .select cs b)
    (hQ : ∀ c a w, Q (.panic c) (a.put oi.dst v) w → Q (.panic c) a w) (hL : waitsFor md ops L i = true) (hiL : i ≠ L) :
    ∀ (f : Nat) (listed : Array Bool) (a : Act) (w : World),
      (∀ j oj, ops[j]? = some oj → j ≠ i → listed.getD j true = false → (∀ e ∈ oj.after, Region.binds md e = true → e.on ≠ i) → oi.apart ops oj = true) →
      i ∈ Region.ready md ops listed → YieldsIf P ops T oi v a → T w →
      wpAnyL P md ops Q T L f (listed.setIfInBounds i true) (a.put oi.dst v) w → wpAnyL P md ops Q T L (f + 1) listed a w := by
  intro f
  induction f with
  | zero =>
    intro listed a w _ hr hy hT H
    refine ⟨fun h => (by rw [h] at hr; cases hr), fun j hj => ?_⟩
    by_cases hji : j = i
    · subst hji; exact hy.wpOp hi hT ⟨fun _ => hT, H⟩
    · have := ready_mono hj hji
      rw [H.1] at this
      cases this
  | succ f ih =>
    intro listed a w hfree hr hy hT H
    refine ⟨fun h => (by rw [h] at hr; cases hr), fun j hj => ?_⟩
    by_cases hji : j = i
    · subst hji; exact hy.wpOp hi hT ⟨fun _ => hT, H⟩
    · have hun := (mem_ready.1 hr).1
      have hno : ∀ {b : Bool}, listed.getD i b = true → b = false → False := fun h hb => by
        subst hb
        rcases Nat.lt_or_ge i listed.size with h' | h'
        · simp [h'] at h hun; rw [hun] at h; cases h
        · simp [Array.getElem?_eq_none h'] at h
      have hjL : j ≠ L := fun e => hno (waits_ready hL (e ▸ hj)) rfl
      obtain ⟨hjun, oj, hoj, hall⟩ := mem_ready.1 hj
      have hnot : ∀ e ∈ oj.after, Region.binds md e = true → e.on ≠ i := fun e he hb heq => hno (heq ▸ hall e he hb) rfl
      have h2 := wpOp_putIf hoj (hfree j oj hoj hji hjun hnot) (fun cs b => hsel i oi cs b hi) (fun cs b => hsel j oj cs b hoj) hQ hy (H.2 j (ready_mono hj hji))
      refine wpOp_mono (fun a' w' h3 => ⟨h3.2.1, ih (listed.setIfInBounds j true) a' w' (fun k ok hk hki hun' hno' => hfree k ok hk hki ?_ hno') (ready_mono hr (Ne.symm hji)) h3.1 (h3.2.1 hjL) ?_⟩) h2
      · by_cases hjk : j = k
        · subst hjk; exact hjun
        · rw [getD_set_ne true hjk] at hun'; exact hun'
      · rw [Array.setIfInBounds_comm _ _ hji]
        exact h3.2.2
theorem wpAnyL_take {i : Nat} {oi : Oper} {v : Value} {f : Nat} {listed : Array Bool} {a : Act} {w : World} (hi : ops[i]? = some oi) (hs : Region.noSelect ops = true) (hf : Region.free md ops listed i = true) (hr : (Region.ready md ops listed).contains i = true) (hL : waitsFor md ops L i = true) (hiL : i ≠ L)
    (hQ : ∀ c a w, Q (.panic c) (a.put oi.dst v) w → Q (.panic c) a w) (hy : YieldsIf P ops T oi v a) (hT : T w) (h : wpAnyL P md ops Q T L f (listed.setIfInBounds i true) (a.put oi.dst v) w) : wpAnyL P md ops Q T L (f + 1) listed a w :=
  wpAnyL_take' hi (Region.noSelect_spec hs) hQ hL hiL f listed a w (Region.free_spec hi hf) (by simpa using hr) hy hT h
theorem wpAnyL_at {i : Nat} {oi : Oper} {v : Value} (d : Option Tmp) {f : Nat} {listed : Array Bool} {a : Act} {w : World} (hi : ops[i]? = some oi) (hd : oi.dst = d) (hs : Region.noSelect ops = true) (hf : Region.free md ops listed i = true) (hr : (Region.ready md ops listed).contains i = true) (hL : waitsFor md ops L i = true) (hiL : i ≠ L)
    (hQ : ∀ c a w, Q (.panic c) (a.put d v) w → Q (.panic c) a w) (hy : YieldsIf P ops T oi v a) (hT : T w) (h : wpAnyL P md ops Q T L f (listed.setIfInBounds i true) (a.put d v) w) : wpAnyL P md ops Q T L (f + 1) listed a w := by
  subst hd; exact wpAnyL_take hi hs hf hr hL hiL hQ hy hT h
theorem wpAnyL_one {i : Nat} {o : Oper} {f : Nat} {listed : Array Bool} {a : Act} {w : World} (hr : Region.ready md ops listed = [i]) (ho : ops[i]? = some o)
    (h : ∀ K' : Act → World → Prop, Shut (∀ a w, (i ≠ L → T w) → wpAnyL P md ops Q T L f (listed.setIfInBounds i true) a w → K' a w) → if Region.wanted o (yielded ops a.tmps) = true then Oper.wp P o a w K' Q else K' (a.put o.dst undef) w) : wpAnyL P md ops Q T L (f + 1) listed a w := by
  refine ⟨fun h0 => (by rw [hr] at h0; cases h0), fun j hj => ?_⟩
  rw [hr, List.mem_singleton] at hj
  subst hj
  exact wpOp_step ho (fun K' hK => h K' (fun a w h1 h2 => hK a w ⟨h1, h2⟩))
theorem wpAnyL_done {listed : Array Bool} {a : Act} {w : World} (hr : Region.ready md ops listed = []) (h : Q .normal a w) : ∀ f, wpAnyL P md ops Q T L f listed a w
  | 0 => ⟨hr, h⟩
  | _ + 1 => ⟨fun _ => h, by rw [hr]; simp⟩
theorem wp_region_L {id : Nat} {a : Act} {w : World} (hm : P.follows .mixedOrders = true) (h : wpAnyL P .any ops (NoPanic Q) T L ops.size (Array.replicate ops.size false) a w.drew) : (Code.region id ops true).wp P Q a w :=
  wp_region_noPanic (wp_region_any hm (wpAny_of_L _ _ _ _ h))
end
end Go.Proofs.YtggkjkkbkpnkiaaGreatDoor



namespace Go.Proofs.YtggkjkkbkpnkiaaGreatDoor
open Go.RowKit Go.Maps
section
variable {P : Program} {ops : Array Oper} {Q : Exit → Act → World → Prop} {md : Region.Mode} {T : World → Prop} {L : Nat}
theorem wpAnyN_take' {i : Nat} {oi : Oper} {v : Value} (hi : ops[i]? = some oi) (hsel : ∀ (j : Nat) (o : Oper) cs b, ops[j]? = some o → o.op ≠ .select cs b)
    (hQ : ∀ c a w, Q (.panic c) (a.put oi.dst v) w → Q (.panic c) a w) (hL : ops.size ≤ L) :
    ∀ (f : Nat) (listed : Array Bool) (a : Act) (w : World),
      (∀ j oj, ops[j]? = some oj → j ≠ i → listed.getD j true = false → (∀ e ∈ oj.after, Region.binds md e = true → e.on ≠ i) → oi.apart ops oj = true) →
      i ∈ Region.ready md ops listed → YieldsIf P ops T oi v a → T w →
      wpAnyL P md ops Q T L f (listed.setIfInBounds i true) (a.put oi.dst v) w → wpAnyL P md ops Q T L (f + 1) listed a w := by
  intro f
  induction f with
  | zero =>
    intro listed a w _ hr hy hT H
    refine ⟨fun h => (by rw [h] at hr; cases hr), fun j hj => ?_⟩
    by_cases hji : j = i
    · subst hji; exact hy.wpOp hi hT ⟨fun _ => hT, H⟩
    · have := ready_mono hj hji
      rw [H.1] at this
      cases this
  | succ f ih =>
    intro listed a w hfree hr hy hT H
    refine ⟨fun h => (by rw [h] at hr; cases hr), fun j hj => ?_⟩
    by_cases hji : j = i
    · subst hji; exact hy.wpOp hi hT ⟨fun _ => hT, H⟩
    · have hun := (mem_ready.1 hr).1
      have hno : ∀ {b : Bool}, listed.getD i b = true → b = false → False := fun h hb => by
        subst hb
        rcases Nat.lt_or_ge i listed.size with h' | h'
        · simp [h'] at h hun; rw [hun] at h; cases h
        · simp [Array.getElem?_eq_none h'] at h
      obtain ⟨hjun, oj, hoj, hall⟩ := mem_ready.1 hj
      have hjL : j ≠ L := fun e => by
        have := (Array.getElem?_eq_some_iff.1 hoj).1
        omega
      have hnot : ∀ e ∈ oj.after, Region.binds md e = true → e.on ≠ i := fun e he hb heq => hno (heq ▸ hall e he hb) rfl
      have h2 := wpOp_putIf hoj (hfree j oj hoj hji hjun hnot) (fun cs b => hsel i oi cs b hi) (fun cs b => hsel j oj cs b hoj) hQ hy (H.2 j (ready_mono hj hji))
      refine wpOp_mono (fun a' w' h3 => ⟨h3.2.1, ih (listed.setIfInBounds j true) a' w' (fun k ok hk hki hun' hno' => hfree k ok hk hki ?_ hno') (ready_mono hr (Ne.symm hji)) h3.1 (h3.2.1 hjL) ?_⟩) h2
      · by_cases hjk : j = k
        · subst hjk; exact hjun
        · rw [getD_set_ne true hjk] at hun'; exact hun'
      · rw [Array.setIfInBounds_comm _ _ hji]
        exact h3.2.2
theorem wpAnyN_at {i : Nat} {oi : Oper} {v : Value} (d : Option Tmp) {f : Nat} {listed : Array Bool} {a : Act} {w : World} (hi : ops[i]? = some oi) (hd : oi.dst = d) (hs : Region.noSelect ops = true) (hf : Region.free md ops listed i = true) (hr : (Region.ready md ops listed).contains i = true) (hL : Nat.ble ops.size L = true)
    (hQ : ∀ c a w, Q (.panic c) (a.put d v) w → Q (.panic c) a w) (hy : YieldsIf P ops T oi v a) (hT : T w) (h : wpAnyL P md ops Q T L f (listed.setIfInBounds i true) (a.put d v) w) : wpAnyL P md ops Q T L (f + 1) listed a w := by
  subst hd
  exact wpAnyN_take' hi (Region.noSelect_spec hs) hQ (Nat.le_of_ble_eq_true hL) f listed a w (Region.free_spec hi hf) (by simpa using hr) hy hT h
end
end Go.Proofs.YtggkjkkbkpnkiaaGreatDoor
