/-
  Carried over from another seat of ours (GC).
-/
import Derived.Test.YtggkjkkbkpnkiaaGreatDoorGB
set_option linter.unusedVariables false
set_option linter.unusedSimpArgs false
namespace Go.Proofs.YtggkjkkbkpnkiaaGreatDoor
open Go.RowKit Go.Maps
variable {x : Kx} {W W' : World} {pb : Nat} {p p' : Ps}

/-- One more element behind a row of the call's own, and where the row lies. -/
theorem wpList_own2 (w : World) {ops : Array Oper} {rest : List Oper} {o : Oper} {a : Act} {Q : Exit → Act → World → Prop} (hgd : o.guard = none) (t : TypeId) (x y : Operand)
    (ho : o.op = .call { callee := .builtin .append, args := #[x, y], argTypes := #[t, t] }) (base : Nat) (e : TypeId) (i : TypeInfo) (z : Value) (size bytes : Nat) (ht : Tryz.prog.underlying t = some (.slice e)) (hi : Tryz.prog.info? e = some i) (hz : i.zero = some z)
    (hsize : i.size = size) (hby : i.bytes = bytes) (hzs : z.cells.size = size) (hsz : 0 < size)
    (v : Value) (n : Nat) (xs : List Value) (ad : Addr) (m c : Nat) (news : List Value) (hx : a.eval x = v) (hy : a.eval y = .slice (some ad) m c) (hown : w.ownsRow base e size v n xs)
    (hl : news.length = m * size) (hnews : ∀ j u, news[j]? = some u → w.cell? (ad.add j) = some u) (h1 : ∀ u ∈ news, u.oneCell' = true)
    (h63 : n + m ≤ maxLen) (hbytes : (n + m) * bytes ≤ 140737488355328) (hbase : base ≤ w.heap.size)
    (h : ∀ v' w', w'.ownsRow base e size v' (n + m) (xs ++ news) → w.grownBy w' v.ownBlock → (v'.ownBlock = v.ownBlock ∨ v'.ownBlock = some w.heap.size) → wpList Tryz.prog ops Q rest (a.put o.dst v') w') :
    wpList Tryz.prog ops Q (o :: rest) a w := by
  refine wpList_plain hgd fun K hK => ?_
  obtain ⟨v', w', hr, hown', hgrow, _, hloc⟩ := run_append_own_at (P := Tryz.prog) w base t o.type e i z size bytes ht hi hz hsize hby hzs hsz v n xs hown ad m c news hl hnews h1 h63 hbytes hbase
  unfold Oper.wp execOp
  simp only [ho, resolve, invoke, builtin, Sem.run_bind, Sem.run_pure, Result.andThen_ok, List.map_toArray, List.map_cons, List.map_nil, hx, hy, hr]
  exact hK _ _ (h v' w' hown' hgrow hloc)

/-! ### Rows of trees of the call's own -/
def Lr (base : Nat) (W : World) (l : List Tr) (v : Value) : Prop := base ≤ W.heap.size ∧ ∃ vs, W.ownsRow base 30 5 v l.length (vs.flatMap cellsOf) ∧ Reps (fun z => base ≤ z ∧ v.ownBlock ≠ some z) W l vs
theorem Lr.nil (W : World) {base : Nat} (hb : base ≤ W.heap.size) : Lr base W [] nl := ⟨hb, [], World.ownsRow_nil _ _ _ _, rfl⟩
theorem Lr.gr {base : Nat} {l : List Tr} {v : Value} {S : Nat → Prop} (h : Lr base W l v) (g : Gr S W W') (hs : ∀ k, base ≤ k → ¬ S k) : Lr base W' l v := by
  obtain ⟨hb, vs, h1, h2⟩ := h
  exact ⟨Nat.le_trans hb g.size, vs, ownsRow_gr h1 g hs, h2.turn (fun z hz hl => ⟨hz, g.block z hl (hs z hz.1)⟩)⟩
theorem Lr.g0 {base : Nat} {l : List Tr} {v : Value} (h : Lr base W l v) (g : Gr (fun _ => False) W W') : Lr base W' l v := h.gr g (fun _ _ e => e)
theorem Lr.sv {base : Nat} {l : List Tr} {v : Value} (h : Lr base W l v) : ∃ a c, v = .slice a l.length c := by obtain ⟨_, vs, h1, _⟩ := h; exact ownsRow_sv h1
theorem Lr.mono {base base' : Nat} {l : List Tr} {v : Value} (h : Lr base W l v) (hb : base' ≤ base) : Lr base' W l v := by
  obtain ⟨h0, vs, h1, h2⟩ := h
  exact ⟨by omega, vs, ownsRow_base h1 hb, h2.turn (fun z hz hl => ⟨⟨by omega, hz.2⟩, rfl⟩)⟩
/-- A tree out of its parts. -/
theorem Lr.tree {base : Nat} {l : List Tr} {v : Value} (h : Lr base W l v) (k : Int) (s : ByteArray) : Rep (fun z => base ≤ z) W (.mk k s 0 [] l) (trv k s 0 nl v) := by
  obtain ⟨h0, vs, h1, h2⟩ := h
  exact ⟨nl, v, vs, rfl, .inl ⟨rfl, _, _, rfl⟩, rowT_own h1, h2.turn (fun z hz hl => ⟨hz.1, rfl⟩)⟩
theorem Rep.gr {base : Nat} {T : Tr} {v : Value} {S : Nat → Prop} (h : Rep (fun z => base ≤ z) W T v) (g : Gr S W W') (hs : ∀ k, base ≤ k → ¬ S k) : Rep (fun z => base ≤ z) W' T v :=
  h.turn (fun z hz hl => ⟨hz, g.block z hl (hs z hz)⟩)
theorem Rep.g0 {base : Nat} {T : Tr} {v : Value} (h : Rep (fun z => base ≤ z) W T v) (g : Gr (fun _ => False) W W') : Rep (fun z => base ≤ z) W' T v := h.gr g (fun _ _ e => e)
theorem Rep.mono {base base' : Nat} {T : Tr} {v : Value} (h : Rep (fun z => base ≤ z) W T v) (hb : base' ≤ base) : Rep (fun z => base' ≤ z) W T v := h.turn (fun z hz hl => ⟨by omega, rfl⟩)
theorem Lr.lit1 {base : Nat} {T : Tr} {k : Int} {s : ByteArray} {n : Int} {bv lv : Value} (h : Rep (fun z => base ≤ z) W T (trv k s n bv lv)) (hb : base ≤ W.heap.size) :
    Lr base (W.alloc (.cells #[.int .i64 k, .string s, .int .i64 n, bv, lv] 30)) [T] (.slice (some ⟨W.heap.size, 0, none⟩) 1 1) := by
  have h1 := World.ownsRow_lit (base := base) (e := 30) (size := 5) W #[.int .i64 k, .string s, .int .i64 n, bv, lv] 1 hb (by unfold maxLen; omega) rfl
  refine ⟨by simp; omega, [trv k s n bv lv], h1, trv k s n bv lv, [], rfl, ?_, rfl⟩
  exact h.turn (fun z hz hl => ⟨⟨hz, by simp [Value.ownBlock]; omega⟩, heap_alloc_old W _ hl⟩)
theorem Lr.lit2 {base : Nat} {T U : Tr} {k k' : Int} {s s' : ByteArray} {n n' : Int} {bv lv bv' lv' : Value} (h : Rep (fun z => base ≤ z) W T (trv k s n bv lv)) (h' : Rep (fun z => base ≤ z) W U (trv k' s' n' bv' lv')) (hb : base ≤ W.heap.size) :
    Lr base (W.alloc (.cells #[.int .i64 k, .string s, .int .i64 n, bv, lv, .int .i64 k', .string s', .int .i64 n', bv', lv'] 30)) [T, U] (.slice (some ⟨W.heap.size, 0, none⟩) 2 2) := by
  have h1 := World.ownsRow_lit (base := base) (e := 30) (size := 5) W #[.int .i64 k, .string s, .int .i64 n, bv, lv, .int .i64 k', .string s', .int .i64 n', bv', lv'] 2 hb (by unfold maxLen; omega) rfl
  have hT : Turn (fun z => base ≤ z) (fun z => base ≤ z ∧ (Value.slice (some ⟨W.heap.size, 0, none⟩) 2 2).ownBlock ≠ some z) W (W.alloc (.cells #[.int .i64 k, .string s, .int .i64 n, bv, lv, .int .i64 k', .string s', .int .i64 n', bv', lv'] 30)) :=
    fun z hz hl => ⟨⟨hz, by simp [Value.ownBlock]; omega⟩, heap_alloc_old W _ hl⟩
  exact ⟨by simp; omega, [trv k s n bv lv, trv k' s' n' bv' lv'], h1, trv k s n bv lv, _, rfl, h.turn hT, trv k' s' n' bv' lv', [], rfl, h'.turn hT, rfl⟩
/-- One more tree: the row has grown, in its place or elsewhere. -/
theorem Lr.grown {base : Nat} {l : List Tr} {u v' : Value} {k : Int} {s : ByteArray} {n : Int} {bv lv : Value} {T : Tr} {vs : List Value} (hb : base ≤ W.heap.size) (hrow : W.ownsRow base 30 5 u l.length (vs.flatMap cellsOf)) (hreps : Reps (fun z => base ≤ z ∧ u.ownBlock ≠ some z) W l vs)
    (hrep : Rep (fun z => base ≤ z ∧ u.ownBlock ≠ some z) W T (trv k s n bv lv)) (h5 : W.grownBy W' u.ownBlock) (hloc : v'.ownBlock = u.ownBlock ∨ v'.ownBlock = some W.heap.size)
    (hrow' : W'.ownsRow base 30 5 v' (l.length + 1) (vs.flatMap cellsOf ++ [.int .i64 k, .string s, .int .i64 n, bv, lv])) : Lr base W' (l ++ [T]) v' := by
  have hT : Turn (fun z => base ≤ z ∧ u.ownBlock ≠ some z) (fun z => base ≤ z ∧ v'.ownBlock ≠ some z) W W' := fun z hz hl => by
    have h1 : v'.ownBlock ≠ some z := by
      rcases hloc with e | e
      · rw [e]; exact hz.2
      · rw [e]; intro e2; cases e2; omega
    exact ⟨⟨hz.1, h1⟩, h5.block z hl (fun e => hz.2 e.symm)⟩
  refine ⟨Nat.le_trans hb h5.size, vs ++ [trv k s n bv lv], ?_, (hreps.turn hT).snoc (hrep.turn hT)⟩
  rw [List.flatMap_append, List.length_append]
  exact hrow'
/-- A tree that was made behind a row lies apart from it. -/
theorem rep_apart {base m : Nat} {T : Tr} {v u : Value} {n : Nat} {xs : List Value} {Wo : World} (h : Rep (fun z => m ≤ z) W T v) (hrow : Wo.ownsRow base 30 5 u n xs) (hm : Wo.heap.size ≤ m) (hb : base ≤ m) : Rep (fun z => base ≤ z ∧ u.ownBlock ≠ some z) W T v :=
  h.turn (fun z hz hl => ⟨⟨by omega, fun e => by have := (ownsRow_lt hrow z e).2; omega⟩, rfl⟩)

/-- The place where the parser stands, out of memory. -/
def atP (W : World) (pb : Nat) : Nat := match W.cell? ⟨pb, 1, none⟩ with
  | some (.int _ n) => n.toNat
  | _ => 0
theorem Pz.atP (h : Pz x W pb p) : atP W pb = p.i := by
  obtain ⟨⟨c0, c1, c2, c3⟩, _⟩ := h.facts
  simp [YtggkjkkbkpnkiaaGreatDoor.atP, c1]

/-! ### Rules -/
abbrev Rule := Ps → Tr × Ps
abbrev tr0 : Tr := .mk 0 e0 0 [] []
/-- How a rule ends. -/
def EndR (x : Kx) (W : World) (pb : Nat) (p : Ps) (e : Ending) (w' : World) (r : Tr × Ps) : Prop :=
  ∃ v, e = .returned v ∧ Rep (fun z => W.heap.size ≤ z) w' r.1 v ∧ Pz x w' pb r.2 ∧ (r.2.d = p.d ∧ p.i ≤ r.2.i) ∧ Gr (fun k => k = pb) W w'
def EndL (x : Kx) (W : World) (pb : Nat) (p : Ps) (e : Ending) (w' : World) (r : List Tr × Ps) : Prop :=
  ∃ v, e = .returned v ∧ Lr W.heap.size w' r.1 v ∧ Pz x w' pb r.2 ∧ (r.2.d = p.d ∧ p.i ≤ r.2.i ∧ r.1.length ≤ r.2.i + 1) ∧ Gr (fun k => k = pb) W w'
/-- The function n is entered, whatever it is called with. -/
def Ent (n : Nat) : Prop := ∀ (args : Array Value) (w : World), (callFunc n args).run Tryz.prog w = .ok (.enter n args) w
theorem ent_of {n : Nat} {fn : Func} {c : Code} (hf : Tryz.prog.funcs[n]? = some fn) (hname : (fn.name == "runtime.NumGoroutine") = false) (hb : fn.body = some c) : Ent n := fun args w => by
  have h1 : ¬ fn.name = "runtime.NumGoroutine" := by simpa using hname
  simp [callFunc, hf, h1, hb]
def RuleOk (x : Kx) (n d : Nat) (g : Rule) : Prop := Ent n ∧ ∀ (W : World) (pb : Nat) (p : Ps), Pz x W pb p → p.d = d → Calls Tryz.prog n #[pt pb] W fun e w' => EndR x W pb p e w' (g p)

def sevL (ts : List Tn) (s : ByteArray) (g : Rule) : Nat → List Tr → Ps → List Tr × Ps
  | 0, l, p => (l, p)
  | f + 1, l, p => if isV ts p s = true then sevL ts s g f (l ++ [(g p.next).1]) (g p.next).2 else (l, p)
def sevV (ts : List Tn) (s : ByteArray) (g : Rule) (p : Ps) : List Tr × Ps := sevL ts s g ts.length [(g p).1] (g p).2

set_option maxRecDepth 100000 in
set_option maxHeartbeats 1600000 in
theorem several_c (n d : Nat) (g : Rule) (hg : RuleOk x n d g) (s : ByteArray) (h : Pz x W pb p) (hd : p.d = d) :
    Calls Tryz.prog 49 #[pt pb, .string s, .func (.func n) #[pt pb] #[]] W fun e w' => EndL x W pb p e w' (sevV x.ts s g p) := by
  have hb := h.lt
  obtain ⟨i0, hi0, hz0, hz1, hz2⟩ := info_parts info25
  obtain ⟨hE, hg⟩ := hg
  have hc1 := hg W pb p h hd
  obtain ⟨r, hr⟩ : ∃ r, r = sevV x.ts s g p := ⟨_, rfl⟩
  rw [← hr]
  have Hr := Lib.hid hr
  clear hr
  go_enter Tryz.func49, Tryz.ntmps49
  go_wp2_with fail
  rw [hE, Oper.upon_enter]
  refine hc1.mono ?_
  rintro e w1 ⟨v, rfl, rep1, h1, ⟨hd1, hi1⟩, g1⟩
  have hs1 := g1.size
  obtain ⟨tk, tt, tn, a1, n1, c1, a2, n2, c2, rfl⟩ := rep1.agg
  have L1 := Lr.lit1 rep1 hs1
  have G1 : Gr (fun _ => False) w1 (w1.alloc (.cells #[.int .i64 tk, .string tt, .int .i64 tn, .slice a1 n1 c1, .slice a2 n2 c2] 30)) := Gr.alloc _ _ _
  clear rep1 hc1
  go_wp2_with fail
  generalize w1.alloc _ = w2 at L1 G1 ⊢
  have h2 := h1.g0 G1
  have g2 := g1.trans (G1.any _)
  have Hd := Lib.hid hd
  clear h1 G1 g1 hd
  go_loopw [7] (fun u wr => ∃ (l : List Tr) (q : Ps) (f : Nat), Hid (x.ts.length ≤ f + q.i) ∧ Hid (r = sevL x.ts s g f l q) ∧ Lr W.heap.size wr l u ∧ Pz x wr pb q ∧ Hid (q.d = p.d ∧ p.i ≤ q.i ∧ l.length ≤ q.i + 1) ∧ Gr (fun k => k = pb) W wr) (fun u wr => x.ts.length - atP wr pb)
  case atStart => exact ⟨[(g p).1], (g p).2, x.ts.length, by show _ ≤ _; omega, Hr.out, L1, h2, ⟨hd1, hi1, by simp⟩, g2⟩
  case round =>
    obtain ⟨l, q, f, hf, Hq, hL, hP, hq, hG⟩ := hrel
    have hb' := hP.lt
    have hk := take_c hP s
    have Hat := Lib.hid hP.atP
    by_cases hs : isV x.ts q s = true
    · obtain ⟨hl, he, hl2⟩ := isV_lt hs
      rw [if_pos hs, hs] at hk
      obtain ⟨f, rfl⟩ : ∃ f', f = f' + 1 := ⟨f - 1, by have := hf.out; omega⟩
      have Hq2 : Hid (r = sevL x.ts s g f (l ++ [(g q.next).1]) (g q.next).2) := by
        show r = _
        rw [Hq.out, sevL, if_pos hs]
      clear hs Hq
      go_wp2_with fail
      refine hk.mono ?_
      rintro e w3 ⟨rfl, h3, g3⟩
      have L3 := hL.gr g3 (fun k h1 h2 => by omega)
      have hc3 := hg w3 pb q.next h3 (by show q.d = d; rw [hq.out.1]; exact Hd.out)
      go_wp2_with fail
      rw [hE, Oper.upon_enter]
      refine hc3.mono ?_
      rintro e w4 ⟨v, rfl, rep4, h4, hi4, g4⟩
      obtain ⟨tk', tt', tn', a1', n1', c1', a2', n2', c2', rfl⟩ := rep4.agg
      obtain ⟨hL0, vs, hrow, hreps⟩ := L3
      have hlen : Hid (l.length ≤ 100001) := by have := hq.out; have := h.hm; show _ ≤ _; omega
      have hs4 : Hid (W.heap.size ≤ w4.heap.size) := Nat.le_trans hL0 g4.size
      have hrow4 := ownsRow_gr hrow g4 (fun z h1 h2 => by omega)
      have hreps4 : Reps (fun z => W.heap.size ≤ z ∧ u7.ownBlock ≠ some z) w4 l vs := hreps.turn (fun z hz hl => ⟨hz, g4.block z hl (by omega)⟩)
      have rep4' := rep_apart rep4 hrow (Nat.le_refl _) hL0
      replace hi4 := Lib.hid hi4
      clear hc3 hk L1 h2 g2 rep4 hreps
      go_wp2_with (first
        | (at_builtin; refine wpList_own2 _ rfl 28 _ _ rfl W.heap.size 30 i0 (trv 0 e0 0 nl nl) 5 80 Tryz.underlying28 hi0 hz0 hz1 hz2 rfl (by decide) u7 l.length (vs.flatMap cellsOf) ⟨w4.heap.size, 0, none⟩ 1 1 [.int .i64 tk', .string tt', .int .i64 tn', .slice a1' n1' c1', .slice a2' n2' c2'] rfl rfl (hrow4.alloc _) rfl (cell_five_new _ _ _ _ _ _ _) (by simp [Value.oneCell']) (by unfold maxLen; have := hlen.out; omega) (by have := hlen.out; omega) (by have := hs4.out; simp; omega) ?_; intro v' w5 hrow5 hgr5 hloc5; obtain ⟨a5, cap5, rfl⟩ := ownsRow_sv hrow5))
      have G4 : Gr (fun _ => False) w4 (w4.alloc (.cells #[.int .i64 tk', .string tt', .int .i64 tn', .slice a1' n1' c1', .slice a2' n2' c2'] 30)) := Gr.alloc _ _ _
      generalize w4.alloc _ = w4' at hrow5 hgr5 hloc5 G4
      have hT4 : Turn (fun z => W.heap.size ≤ z ∧ u7.ownBlock ≠ some z) (fun z => W.heap.size ≤ z ∧ u7.ownBlock ≠ some z) w4 w4' := fun z hz hl => ⟨hz, G4.block z hl (fun e => e)⟩
      have hrow4' := ownsRow_gr hrow4 G4 (fun _ _ e => e)
      have L5 := Lr.grown (Nat.le_trans hs4.out G4.size) hrow4' (hreps4.turn hT4) (rep4'.turn hT4) hgr5 hloc5 hrow5
      have G5 : Gr (fun z => W.heap.size ≤ z) w4' w5 := Gr.of_grown hgr5 (fun z e => (ownsRow_lt hrow4' z e).1)
      have h5 := (h4.g0 G4).gr G5 (fun k hk e => by omega)
      have g5 : Gr (fun k => k = pb) W w5 := (((hG.trans g3).trans g4).trans (G4.any _)).trans' G5 (fun k hk e => by omega)
      have n1 : Hid (x.ts.length ≤ f + (g q.next).2.i) := by have := hf.out; have h6 : q.i + 1 ≤ (g q.next).2.i := hi4.out.2; show _ ≤ _; omega
      have n2 : Hid ((g q.next).2.d = p.d ∧ p.i ≤ (g q.next).2.i ∧ (l ++ [(g q.next).1]).length ≤ (g q.next).2.i + 1) := by
        have h6 : q.i + 1 ≤ (g q.next).2.i := hi4.out.2
        have h7 := hq.out
        refine ⟨by rw [← h7.1]; exact hi4.out.1, by omega, by simp; omega⟩
      have n3 : x.ts.length - atP w5 pb < x.ts.length - atP wr pb := by
        rw [h5.atP, Hat.out]
        have h6 : q.i + 1 ≤ (g q.next).2.i := hi4.out.2
        omega
      replace n3 := Lib.hid n3
      clear hrow5 hgr5 hloc5 hrow4 hrow4' hreps4 rep4' hT4 G5 G4
      go_wp2_with fail
      exact ⟨⟨_, _, f, n1, Hq2, L5, h5, n2, g5⟩, n3.out⟩
    · have hs' : isV x.ts q s = false := by simpa using hs
      rw [if_neg hs, hs'] at hk
      have Hq2 : r = (l, q) := by
        rw [Hq.out]
        cases f with
        | zero => rfl
        | succ f => rw [sevL, if_neg hs]
      subst Hq2
      go_wp2_with fail
      refine hk.mono ?_
      rintro e w3 ⟨rfl, h3, g3⟩
      have L3 := hL.gr g3 (fun k h1 h2 => by omega)
      obtain ⟨sa, sc, rfl⟩ := hL.sv
      go_wp2_with fail
      go_ret
      exact ⟨_, rfl, L3, h3, hq.out, hG.trans g3⟩
end Go.Proofs.YtggkjkkbkpnkiaaGreatDoor


