/-
  Carried over from another seat of ours (GC).
  Carried over from another seat of ours (GD).
  Carried over from another seat of ours (GE).
-/
import Derived.Test.YtjedbfbolifjjaaGreatDoorGA
set_option linter.unusedVariables false
set_option linter.unusedSimpArgs false
namespace Go.Proofs.YtjedbfbolifjjaaGreatDoor
open Go.RowKit Go.Maps
variable {x : Kx} {W W' : World} {pb : Nat} {p p' : Ps}
/-- One more element behind a row of the call's own, and where the row lies. -/
theorem wpList_own2 (w : World) {ops : Array Oper} {rest : List Oper} {o : Oper} {a : Act} {Q : Exit → Act → World → Prop} (hgd : o.guard = none) (t : TypeId) (x y : Operand)
 (ho : o.op = .call { callee := .builtin .append, args := #[x, y], argTypes := #[t, t] }) (base : Nat) (e : TypeId) (i : TypeInfo) (z : Value) (size bytes : Nat) (ht : Tryz.prog.underlying t = some (.slice e)) (hi : Tryz.prog.info? e = some i) (hz : i.zero = some z)
 (hsize : i.size = size) (hby : i.bytes = bytes) (hzs : z.cells.size = size) (hsz : 0 < size)
 (v : Value) (n : Nat) (xs : List Value) (ad : Addr) (m c : Nat) (news : List Value) (hx : a.eval x = v) (hy : a.eval y = .slice (some ad) m c) (hown : w.ownsRow base e size v n xs)
 (hl : news.length = m * size) (hnews : ∀ j u, news[j]? = some u → w.cell? (ad.add j) = some u) (h1 : ∀ u ∈ news, u.oneCell' = true)
 (h63 : n + m ≤ maxLen) (hbytes : (n + m) * bytes ≤ 140737488355328) (hbase : base ≤ w.heap.size)
 (h : ∀ v' w', w'.ownsRow base e size v' (n + m) (xs ++ news) → w.grownBy w' v.ownBlock → (v'.ownBlock = v.ownBlock ∨ v'.ownBlock = some w.heap.size) → wpList Tryz.prog ops Q rest (a.put o.dst v') w') :
 wpList Tryz.prog ops Q (o :: rest) a w := by
 refine wpList_plain hgd fun K hK => ?_
 obtain ⟨v', w', hr, hown', hgrow, _, hloc⟩ := run_append_own_at (P := Tryz.prog) w base t o.type e i z size bytes ht hi hz hsize hby hzs hsz v n xs hown ad m c news hl hnews h1 h63 hbytes hbase
 unfold Oper.wp execOp
 simp only [ho, resolve, invoke, builtin, Sem.run_bind, Sem.run_pure, Result.andThen_ok, List.map_toArray, List.map_cons, List.map_nil, hx, hy, hr]
 exact hK _ _ (h v' w' hown' hgrow hloc)

/-! ### Rows of trees of the call's own -/
def Lr (base : Nat) (W : World) (l : List Tr) (v : Value) : Prop := base ≤ W.heap.size ∧ ∃ vs, W.ownsRow base 25 5 v l.length (vs.flatMap cellsOf) ∧ Reps (fun z => base ≤ z ∧ v.ownBlock ≠ some z) W l vs
theorem Lr.nil (W : World) {base : Nat} (hb : base ≤ W.heap.size) : Lr base W [] nl := ⟨hb, [], World.ownsRow_nil _ _ _ _, rfl⟩
theorem Lr.gr {base : Nat} {l : List Tr} {v : Value} {S : Nat → Prop} (h : Lr base W l v) (g : Gr S W W') (hs : ∀ k, base ≤ k → ¬ S k) : Lr base W' l v := by
 obtain ⟨hb, vs, h1, h2⟩ := h
 exact ⟨Nat.le_trans hb g.size, vs, ownsRow_gr h1 g hs, h2.turn (fun z hz hl => ⟨hz, g.block z hl (hs z hz.1)⟩)⟩
theorem Lr.g0 {base : Nat} {l : List Tr} {v : Value} (h : Lr base W l v) (g : Gr (fun _ => False) W W') : Lr base W' l v := h.gr g (fun _ _ e => e)
theorem Lr.sv {base : Nat} {l : List Tr} {v : Value} (h : Lr base W l v) : ∃ a c, v = .slice a l.length c := by obtain ⟨_, vs, h1, _⟩ := h; exact ownsRow_sv h1
theorem Lr.mono {base base' : Nat} {l : List Tr} {v : Value} (h : Lr base W l v) (hb : base' ≤ base) : Lr base' W l v := by
 obtain ⟨h0, vs, h1, h2⟩ := h
 exact ⟨by omega, vs, ownsRow_base h1 hb, h2.turn (fun z hz hl => ⟨⟨by omega, hz.2⟩, rfl⟩)⟩
/-- A tree out of its parts. -/
theorem Lr.tree {base : Nat} {l : List Tr} {v : Value} (h : Lr base W l v) (k : Int) (s : ByteArray) : Rep (fun z => base ≤ z) W (.mk k s 0 [] l) (trv k s 0 nl v) := by
 obtain ⟨h0, vs, h1, h2⟩ := h
 exact ⟨nl, v, vs, rfl, .inl ⟨rfl, _, _, rfl⟩, rowT_own h1, h2.turn (fun z hz hl => ⟨hz.1, rfl⟩)⟩
theorem Rep.gr {base : Nat} {T : Tr} {v : Value} {S : Nat → Prop} (h : Rep (fun z => base ≤ z) W T v) (g : Gr S W W') (hs : ∀ k, base ≤ k → ¬ S k) : Rep (fun z => base ≤ z) W' T v :=
 h.turn (fun z hz hl => ⟨hz, g.block z hl (hs z hz)⟩)
theorem Rep.g0 {base : Nat} {T : Tr} {v : Value} (h : Rep (fun z => base ≤ z) W T v) (g : Gr (fun _ => False) W W') : Rep (fun z => base ≤ z) W' T v := h.gr g (fun _ _ e => e)
theorem Rep.mono {base base' : Nat} {T : Tr} {v : Value} (h : Rep (fun z => base ≤ z) W T v) (hb : base' ≤ base) : Rep (fun z => base' ≤ z) W T v := h.turn (fun z hz hl => ⟨by omega, rfl⟩)
theorem Lr.lit1 {base : Nat} {T : Tr} {k : Int} {s : ByteArray} {n : Int} {bv lv : Value} (h : Rep (fun z => base ≤ z) W T (trv k s n bv lv)) (hb : base ≤ W.heap.size) :
 Lr base (W.alloc (.cells #[.int .i64 k, .string s, .int .i64 n, bv, lv] 25)) [T] (.slice (some ⟨W.heap.size, 0, none⟩) 1 1) := by
 have h1 := World.ownsRow_lit (base := base) (e := 25) (size := 5) W #[.int .i64 k, .string s, .int .i64 n, bv, lv] 1 hb (by unfold maxLen; omega) rfl
 refine ⟨by simp; omega, [trv k s n bv lv], h1, trv k s n bv lv, [], rfl, ?_, rfl⟩
 exact h.turn (fun z hz hl => ⟨⟨hz, by simp [Value.ownBlock]; omega⟩, heap_alloc_old W _ hl⟩)
theorem Lr.lit2 {base : Nat} {T U : Tr} {k k' : Int} {s s' : ByteArray} {n n' : Int} {bv lv bv' lv' : Value} (h : Rep (fun z => base ≤ z) W T (trv k s n bv lv)) (h' : Rep (fun z => base ≤ z) W U (trv k' s' n' bv' lv')) (hb : base ≤ W.heap.size) :
 Lr base (W.alloc (.cells #[.int .i64 k, .string s, .int .i64 n, bv, lv, .int .i64 k', .string s', .int .i64 n', bv', lv'] 25)) [T, U] (.slice (some ⟨W.heap.size, 0, none⟩) 2 2) := by
 have h1 := World.ownsRow_lit (base := base) (e := 25) (size := 5) W #[.int .i64 k, .string s, .int .i64 n, bv, lv, .int .i64 k', .string s', .int .i64 n', bv', lv'] 2 hb (by unfold maxLen; omega) rfl
 have hT : Turn (fun z => base ≤ z) (fun z => base ≤ z ∧ (Value.slice (some ⟨W.heap.size, 0, none⟩) 2 2).ownBlock ≠ some z) W (W.alloc (.cells #[.int .i64 k, .string s, .int .i64 n, bv, lv, .int .i64 k', .string s', .int .i64 n', bv', lv'] 25)) :=
  fun z hz hl => ⟨⟨hz, by simp [Value.ownBlock]; omega⟩, heap_alloc_old W _ hl⟩
 exact ⟨by simp; omega, [trv k s n bv lv, trv k' s' n' bv' lv'], h1, trv k s n bv lv, _, rfl, h.turn hT, trv k' s' n' bv' lv', [], rfl, h'.turn hT, rfl⟩
/-- One more tree: the row has grown, in its place or elsewhere. -/
theorem Lr.grown {base : Nat} {l : List Tr} {u v' : Value} {k : Int} {s : ByteArray} {n : Int} {bv lv : Value} {T : Tr} {vs : List Value} (hb : base ≤ W.heap.size) (hrow : W.ownsRow base 25 5 u l.length (vs.flatMap cellsOf)) (hreps : Reps (fun z => base ≤ z ∧ u.ownBlock ≠ some z) W l vs)
 (hrep : Rep (fun z => base ≤ z ∧ u.ownBlock ≠ some z) W T (trv k s n bv lv)) (h5 : W.grownBy W' u.ownBlock) (hloc : v'.ownBlock = u.ownBlock ∨ v'.ownBlock = some W.heap.size)
 (hrow' : W'.ownsRow base 25 5 v' (l.length + 1) (vs.flatMap cellsOf ++ [.int .i64 k, .string s, .int .i64 n, bv, lv])) : Lr base W' (l ++ [T]) v' := by
 have hT : Turn (fun z => base ≤ z ∧ u.ownBlock ≠ some z) (fun z => base ≤ z ∧ v'.ownBlock ≠ some z) W W' := fun z hz hl => by
  have h1 : v'.ownBlock ≠ some z := by
   rcases hloc with e | e
   · rw [e]; exact hz.2
   · rw [e]; intro e2; cases e2; omega
  exact ⟨⟨hz.1, h1⟩, h5.block z hl (fun e => hz.2 e.symm)⟩
 refine ⟨Nat.le_trans hb h5.size, vs ++ [trv k s n bv lv], ?_, (hreps.turn hT).snoc (hrep.turn hT)⟩
 rw [List.flatMap_append, List.length_append]
 exact hrow'
/-- A tree that was made behind a row lies apart from it. -/
theorem rep_apart {base m : Nat} {T : Tr} {v u : Value} {n : Nat} {xs : List Value} {Wo : World} (h : Rep (fun z => m ≤ z) W T v) (hrow : Wo.ownsRow base 25 5 u n xs) (hm : Wo.heap.size ≤ m) (hb : base ≤ m) : Rep (fun z => base ≤ z ∧ u.ownBlock ≠ some z) W T v :=
 h.turn (fun z hz hl => ⟨⟨by omega, fun e => by have := (ownsRow_lt hrow z e).2; omega⟩, rfl⟩)

/-- The place where the parser stands, out of memory. -/
def atP (W : World) (pb : Nat) : Nat := match W.cell? ⟨pb, 1, none⟩ with
 | some (.int _ n) => n.toNat
 | _ => 0
theorem Pz.atP (h : Pz x W pb p) : atP W pb = p.i := by
 obtain ⟨⟨c0, c1, c2, c3⟩, _⟩ := h.facts
 simp [YtjedbfbolifjjaaGreatDoor.atP, c1]

/-! ### Rules -/
abbrev Rule := Ps → Tr × Ps
abbrev tr0 : Tr := .mk 0 e0 0 [] []
/-- How a rule ends. -/
def EndR (x : Kx) (W : World) (pb : Nat) (p : Ps) (e : Ending) (w' : World) (r : Tr × Ps) : Prop :=
 ∃ v, e = .returned v ∧ Rep (fun z => W.heap.size ≤ z) w' r.1 v ∧ Pz x w' pb r.2 ∧ (r.2.d = p.d ∧ p.i ≤ r.2.i) ∧ Gr (fun k => k = pb) W w'
def EndL (x : Kx) (W : World) (pb : Nat) (p : Ps) (e : Ending) (w' : World) (r : List Tr × Ps) : Prop :=
 ∃ v, e = .returned v ∧ Lr W.heap.size w' r.1 v ∧ Pz x w' pb r.2 ∧ (r.2.d = p.d ∧ p.i ≤ r.2.i ∧ r.1.length ≤ r.2.i + 1) ∧ Gr (fun k => k = pb) W w'
/-- The function n is entered, whatever it is called with. -/
def Ent (n : Nat) : Prop := ∀ (args : Array Value) (w : World), (callFunc n args).run Tryz.prog w = .ok (.enter n args) w
theorem ent_of {n : Nat} {fn : Func} {c : Code} (hf : Tryz.prog.funcs[n]? = some fn) (hname : (fn.name == "runtime.NumGoroutine") = false) (hb : fn.body = some c) : Ent n := fun args w => by
 have h1 : ¬ fn.name = "runtime.NumGoroutine" := by simpa using hname
 simp [callFunc, hf, h1, hb]
def RuleOk (x : Kx) (n d : Nat) (g : Rule) : Prop := Ent n ∧ ∀ (W : World) (pb : Nat) (p : Ps), Pz x W pb p → p.d = d → Calls Tryz.prog n #[pt pb] W fun e w' => EndR x W pb p e w' (g p)

def sevL (ts : List Tn) (s : ByteArray) (g : Rule) : Nat → List Tr → Ps → List Tr × Ps
 | 0, l, p => (l, p)
 | f + 1, l, p => if isV ts p s = true then sevL ts s g f (l ++ [(g p.next).1]) (g p.next).2 else (l, p)
def sevV (ts : List Tn) (s : ByteArray) (g : Rule) (p : Ps) : List Tr × Ps := sevL ts s g ts.length [(g p).1] (g p).2

set_option maxRecDepth 100000 in
set_option maxHeartbeats 1600000 in
theorem several_c (n d : Nat) (g : Rule) (hg : RuleOk x n d g) (s : ByteArray) (h : Pz x W pb p) (hd : p.d = d) :
 Calls Tryz.prog 125 #[pt pb, .string s, .func (.func n) #[pt pb] #[]] W fun e w' => EndL x W pb p e w' (sevV x.ts s g p) := by
 have hb := h.lt
 obtain ⟨i0, hi0, hz0, hz1, hz2⟩ := info_parts info25
 obtain ⟨hE, hg⟩ := hg
 have hc1 := hg W pb p h hd
 obtain ⟨r, hr⟩ : ∃ r, r = sevV x.ts s g p := ⟨_, rfl⟩
 rw [← hr]
 have Hr := Lib.hid hr
 clear hr
 go_enter Tryz.func125, Tryz.ntmps125
 go_wp2_with fail
 rw [hE, Oper.upon_enter]
 refine hc1.mono ?_
 rintro e w1 ⟨v, rfl, rep1, h1, ⟨hd1, hi1⟩, g1⟩
 have hs1 := g1.size
 obtain ⟨tk, tt, tn, a1, n1, c1, a2, n2, c2, rfl⟩ := rep1.agg
 have L1 := Lr.lit1 rep1 hs1
 have G1 : Gr (fun _ => False) w1 (w1.alloc (.cells #[.int .i64 tk, .string tt, .int .i64 tn, .slice a1 n1 c1, .slice a2 n2 c2] 25)) := Gr.alloc _ _ _
 clear rep1 hc1
 go_wp2_with fail
 generalize w1.alloc _ = w2 at L1 G1 ⊢
 have h2 := h1.g0 G1
 have g2 := g1.trans (G1.any _)
 have Hd := Lib.hid hd
 clear h1 G1 g1 hd
 go_loopw [7] (fun u wr => ∃ (l : List Tr) (q : Ps) (f : Nat), Hid (x.ts.length ≤ f + q.i) ∧ Hid (r = sevL x.ts s g f l q) ∧ Lr W.heap.size wr l u ∧ Pz x wr pb q ∧ Hid (q.d = p.d ∧ p.i ≤ q.i ∧ l.length ≤ q.i + 1) ∧ Gr (fun k => k = pb) W wr) (fun u wr => x.ts.length - atP wr pb)
 case atStart => exact ⟨[(g p).1], (g p).2, x.ts.length, by show _ ≤ _; omega, Hr.out, L1, h2, ⟨hd1, hi1, by simp⟩, g2⟩
 case round =>
  obtain ⟨l, q, f, hf, Hq, hL, hP, hq, hG⟩ := hrel
  have hb' := hP.lt
  have hk := take_c hP s
  have Hat := Lib.hid hP.atP
  by_cases hs : isV x.ts q s = true
  ·
   obtain ⟨hl, he, hl2⟩ := isV_lt hs
   rw [if_pos hs, hs] at hk
   obtain ⟨f, rfl⟩ : ∃ f', f = f' + 1 := ⟨f - 1, by have := hf.out; omega⟩
   have Hq2 : Hid (r = sevL x.ts s g f (l ++ [(g q.next).1]) (g q.next).2) := by
    show r = _
    rw [Hq.out, sevL, if_pos hs]
   clear hs Hq
   go_wp2_with fail
   refine hk.mono ?_
   rintro e w3 ⟨rfl, h3, g3⟩
   have L3 := hL.gr g3 (fun k h1 h2 => by omega)
   have hc3 := hg w3 pb q.next h3 (by show q.d = d; rw [hq.out.1]; exact Hd.out)
   go_wp2_with fail
   rw [hE, Oper.upon_enter]
   refine hc3.mono ?_
   rintro e w4 ⟨v, rfl, rep4, h4, hi4, g4⟩
   obtain ⟨tk', tt', tn', a1', n1', c1', a2', n2', c2', rfl⟩ := rep4.agg
   obtain ⟨hL0, vs, hrow, hreps⟩ := L3
   have hlen : Hid (l.length ≤ 100001) := by have := hq.out; have := h.hm; show _ ≤ _; omega
   have hs4 : Hid (W.heap.size ≤ w4.heap.size) := Nat.le_trans hL0 g4.size
   have hrow4 := ownsRow_gr hrow g4 (fun z h1 h2 => by omega)
   have hreps4 : Reps (fun z => W.heap.size ≤ z ∧ u7.ownBlock ≠ some z) w4 l vs := hreps.turn (fun z hz hl => ⟨hz, g4.block z hl (by omega)⟩)
   have rep4' := rep_apart rep4 hrow (Nat.le_refl _) hL0
   replace hi4 := Lib.hid hi4
   clear hc3 hk L1 h2 g2 rep4 hreps
   go_wp2_with (first
    | (at_builtin; refine wpList_own2 _ rfl 23 _ _ rfl W.heap.size 25 i0 (trv 0 e0 0 nl nl) 5 80 Tryz.underlying23 hi0 hz0 hz1 hz2 rfl (by decide) u7 l.length (vs.flatMap cellsOf) ⟨w4.heap.size, 0, none⟩ 1 1 [.int .i64 tk', .string tt', .int .i64 tn', .slice a1' n1' c1', .slice a2' n2' c2'] rfl rfl (hrow4.alloc _) rfl (cell_five_new _ _ _ _ _ _ _) (by simp [Value.oneCell']) (by unfold maxLen; have := hlen.out; omega) (by have := hlen.out; omega) (by have := hs4.out; simp; omega) ?_; intro v' w5 hrow5 hgr5 hloc5; obtain ⟨a5, cap5, rfl⟩ := ownsRow_sv hrow5))
   have G4 : Gr (fun _ => False) w4 (w4.alloc (.cells #[.int .i64 tk', .string tt', .int .i64 tn', .slice a1' n1' c1', .slice a2' n2' c2'] 25)) := Gr.alloc _ _ _
   generalize w4.alloc _ = w4' at hrow5 hgr5 hloc5 G4
   have hT4 : Turn (fun z => W.heap.size ≤ z ∧ u7.ownBlock ≠ some z) (fun z => W.heap.size ≤ z ∧ u7.ownBlock ≠ some z) w4 w4' := fun z hz hl => ⟨hz, G4.block z hl (fun e => e)⟩
   have hrow4' := ownsRow_gr hrow4 G4 (fun _ _ e => e)
   have L5 := Lr.grown (Nat.le_trans hs4.out G4.size) hrow4' (hreps4.turn hT4) (rep4'.turn hT4) hgr5 hloc5 hrow5
   have G5 : Gr (fun z => W.heap.size ≤ z) w4' w5 := Gr.of_grown hgr5 (fun z e => (ownsRow_lt hrow4' z e).1)
   have h5 := (h4.g0 G4).gr G5 (fun k hk e => by omega)
   have g5 : Gr (fun k => k = pb) W w5 := (((hG.trans g3).trans g4).trans (G4.any _)).trans' G5 (fun k hk e => by omega)
   have n1 : Hid (x.ts.length ≤ f + (g q.next).2.i) := by have := hf.out; have h6 : q.i + 1 ≤ (g q.next).2.i := hi4.out.2; show _ ≤ _; omega
   have n2 : Hid ((g q.next).2.d = p.d ∧ p.i ≤ (g q.next).2.i ∧ (l ++ [(g q.next).1]).length ≤ (g q.next).2.i + 1) := by
    have h6 : q.i + 1 ≤ (g q.next).2.i := hi4.out.2
    have h7 := hq.out
    refine ⟨by rw [← h7.1]; exact hi4.out.1, by omega, by simp; omega⟩
   have n3 : x.ts.length - atP w5 pb < x.ts.length - atP wr pb := by
    rw [h5.atP, Hat.out]
    have h6 : q.i + 1 ≤ (g q.next).2.i := hi4.out.2
    omega
   replace n3 := Lib.hid n3
   clear hrow5 hgr5 hloc5 hrow4 hrow4' hreps4 rep4' hT4 G5 G4
   go_wp2_with fail
   exact ⟨⟨_, _, f, n1, Hq2, L5, h5, n2, g5⟩, n3.out⟩
  ·
   have hs' : isV x.ts q s = false := by simpa using hs
   rw [if_neg hs, hs'] at hk
   have Hq2 : r = (l, q) := by
    rw [Hq.out]
    cases f with
    | zero => rfl
    | succ f => rw [sevL, if_neg hs]
   subst Hq2
   go_wp2_with fail
   refine hk.mono ?_
   rintro e w3 ⟨rfl, h3, g3⟩
   have L3 := hL.gr g3 (fun k h1 h2 => by omega)
   obtain ⟨sa, sc, rfl⟩ := hL.sv
   go_wp2_with fail
   go_ret
   exact ⟨_, rfl, L3, h3, hq.out, hG.trans g3⟩
end Go.Proofs.YtjedbfbolifjjaaGreatDoor

namespace Go.Proofs.YtjedbfbolifjjaaGreatDoor
open Go.RowKit Go.Maps
variable {x : Kx} {W W' : World} {pb : Nat} {p p' : Ps}
theorem failV_same (c : Int) (p : Ps) : (failV c p).i = p.i ∧ (failV c p).d = p.d := by
 unfold failV; split <;> exact ⟨rfl, rfl⟩
theorem wantV_ge (ts : List Tn) (s : ByteArray) (p : Ps) : p.i ≤ (wantV ts s p).i ∧ (wantV ts s p).d = p.d := by
 unfold wantV; split
 · exact ⟨Nat.le_succ _, rfl⟩
 · have := failV_same 160 p; exact ⟨by omega, this.2⟩
theorem nameV_ge (ts : List Tn) (k : Int) (p : Ps) : p.i ≤ (nameV ts k p).2.i ∧ (nameV ts k p).2.d = p.d := by
 unfold nameV; split
 · exact ⟨Nat.le_succ _, rfl⟩
 · have := failV_same 160 p; exact ⟨by show p.i ≤ (failV 160 p).i; omega, this.2⟩
theorem rep0 (A : Nat → Prop) (W : World) : Rep A W tr0 tr0v := ⟨nl, nl, [], rfl, .inl ⟨rfl, _, _, rfl⟩, .inl ⟨rfl, _, _, rfl⟩, rfl⟩
abbrev zc : Array Value := #[.int .i64 0, .string e0, .int .i64 0, nl, nl]
/-- A tree is laid into the result's block. -/
theorem fin_tree {wN : World} {b : Nat} {z0 z1 z2 z3 z4 : Value} {T : Tr} {k : Int} {s : ByteArray} {n : Int} {bv lv : Value} (hb : wN.heap[b]? = some (.cells #[z0, z1, z2, z3, z4] 25 (0, 0))) (rep : Rep (fun z => b + 1 ≤ z) wN T (trv k s n bv lv)) (hP : Pz x wN pb p') (hbp : pb < b) (g : Gr (fun k => k = pb) W wN) (hW : W.heap.size = b) :
 (set5 wN b (.int .i64 k) (.string s) (.int .i64 n) bv lv).heap[b]? = some (.cells #[.int .i64 k, .string s, .int .i64 n, bv, lv] 25 (0, 0)) ∧ Rep (fun z => W.heap.size ≤ z) (set5 wN b (.int .i64 k) (.string s) (.int .i64 n) bv lv) T (trv k s n bv lv) ∧
   Pz x (set5 wN b (.int .i64 k) (.string s) (.int .i64 n) bv lv) pb p' ∧ Gr (fun k => k = pb) W (set5 wN b (.int .i64 k) (.string s) (.int .i64 n) bv lv) := by
 have gs := set5_gr wN b (.int .i64 k) (.string s) (.int .i64 n) bv lv
 exact ⟨set5_heap hb _ _ _ _ _, (rep.gr gs (fun k hk e => by omega)).mono (by omega), hP.gr gs (fun k hk e => by omega), g.trans' gs (fun k hk e => by omega)⟩
abbrev cma : ByteArray := ⟨#[44]⟩
def uptoV (ts : List Tn) (en : ByteArray) (g : Rule) (p : Ps) : List Tr × Ps :=
 if isV ts p en = true then ([], wantV ts en p) else ((sevV ts cma g p).1, wantV ts en (sevV ts cma g p).2)
set_option maxRecDepth 100000 in
set_option maxHeartbeats 1600000 in
theorem upTo_c (n d : Nat) (g : Rule) (hg : RuleOk x n d g) (en : ByteArray) (h : Pz x W pb p) (hd : p.d = d) :
 Calls Tryz.prog 105 #[pt pb, .string en, .func (.func n) #[pt pb] #[]] W fun e w' => EndL x W pb p e w' (uptoV x.ts en g p) := by
 have hb := h.lt
 have hk := is_c h en
 by_cases hs : isV x.ts p en = true
 ·
  rw [uptoV, if_pos hs]
  rw [hs] at hk
  have hq := wantV_ge x.ts en p
  go_enter Tryz.func105, Tryz.ntmps105
  go_wp2_with fail
  refine hk.mono ?_
  rintro e w1 ⟨rfl, g1⟩
  have h1 := h.g0 g1
  go_wp2_with fail
  refine (want_c h1 en).mono ?_
  rintro e w2 ⟨rfl, h2, g2⟩
  go_wp2_with fail
  go_ret
  exact ⟨_, rfl, Lr.nil _ (Nat.le_trans g1.size g2.size), h2, ⟨hq.2, hq.1, by simp⟩, (g1.any _).trans g2⟩
 ·
  have hs' : isV x.ts p en = false := by simpa using hs
  rw [uptoV, if_neg hs]
  rw [hs'] at hk
  have hq := wantV_ge x.ts en (sevV x.ts cma g p).2
  clear hs
  go_enter Tryz.func105, Tryz.ntmps105
  go_wp2_with fail
  refine hk.mono ?_
  rintro e w1 ⟨rfl, g1⟩
  have h1 := h.g0 g1
  go_wp2_with fail
  refine (several_c n d g hg cma h1 hd).mono ?_
  rintro e w2 ⟨v, rfl, L2, h2, hi2, g2⟩
  obtain ⟨sa, sc, rfl⟩ := L2.sv
  go_wp2_with fail
  refine (want_c h2 en).mono ?_
  rintro e w3 ⟨rfl, h3, g3⟩
  have hs1 := g1.size
  have L3 := (L2.mono g1.size).gr g3 (fun k hk e => by omega)
  go_wp2_with fail
  go_ret
  exact ⟨_, rfl, L3, h3, ⟨hq.2.trans hi2.1, Nat.le_trans hi2.2.1 hq.1, Nat.le_trans hi2.2.2 (Nat.succ_le_succ hq.1)⟩, ((g1.any _).trans g2).trans g3⟩

def varV (ts : List Tn) (p : Ps) : Tr × Ps := (.mk 3 (nameV ts 3 p).1 0 [] [], (nameV ts 3 p).2)
set_option maxRecDepth 100000 in
set_option maxHeartbeats 1600000 in
theorem gvar_c (d : Nat) : RuleOk x 106 d (varV x.ts) := by
 refine ⟨ent_of Tryz.func106 (by kernel_rfl) rfl, fun W pb p h hd => ?_⟩
 have hb := h.lt
 have hq := nameV_ge x.ts 3 p
 have h0 := h.g0 (Gr.alloc W (.cells zc 25) _)
 have hb0 := heap_alloc_new W (.cells zc 25)
 have g0 : Gr (fun _ => False) W (W.alloc (.cells zc 25)) := Gr.alloc _ _ _
 have hz0 : (W.alloc (.cells zc 25)).heap.size = W.heap.size + 1 := by simp
 go_enter Tryz.func106, Tryz.ntmps106
 go_wp2_with fail
 generalize W.alloc (.cells zc 25) = W0 at h0 hb0 g0 hz0 ⊢
 obtain ⟨b, hbb⟩ : ∃ b, W.heap.size = b := ⟨_, rfl⟩
 have hbp : pb < b := by omega
 rw [hbb] at hb0 hz0 ⊢
 refine (gname_c h0 3 (by decide)).mono ?_
 rintro e w1 ⟨rfl, h1, g1⟩
 go_wp2_with fail
 refine (node_c w1 3 _ none 0 0).mono ?_
 rintro e w2 ⟨rfl, g2⟩
 have hb2 := g2.keep (g1.keep hb0 (by omega)) (fun e => e)
 obtain ⟨⟨m0, m1, m2, m3, m4⟩, f0, f1, f2, f3, f4⟩ := five_cells hb2
 have hbl := h1.lt
 go_wp2_with fail
 have gN : Gr (fun k => k = pb) W w2 := ((g0.any _).trans g1).trans (g2.any _)
 have rep : Rep (fun z => b + 1 ≤ z) w2 (.mk 3 (nameV x.ts 3 p).1 0 [] []) (trv 3 (nameV x.ts 3 p).1 0 nl nl) := ⟨nl, nl, [], rfl, .inl ⟨rfl, _, _, rfl⟩, .inl ⟨rfl, _, _, rfl⟩, rfl⟩
 obtain ⟨hf, r1, r2, r3⟩ := fin_tree hb2 rep (h1.g0 g2) hbp gN hbb
 clear m0 m1 m2 m3 m4
 obtain ⟨⟨m0, m1, m2, m3, m4⟩, _⟩ := five_cells hf
 exact bodyPost_ret (v := trv 3 (nameV x.ts 3 p).1 0 nl nl) (by simp [results, Tryz.results106, go_sem, m0, m1, m2, m3, m4]) rfl ⟨_, rfl, r1, r2, ⟨hq.2, hq.1⟩, r3⟩

abbrev arw : ByteArray := ⟨#[45, 62]⟩
def arrowV (ts : List Tn) (ex : Rule) (p : Ps) : Tr × Ps := (.mk 16 e0 0 [] (sevV ts cma ex (wantV ts arw p)).1, (sevV ts cma ex (wantV ts arw p)).2)
set_option maxRecDepth 100000 in
set_option maxHeartbeats 1600000 in
theorem arrow_c (d : Nat) (ex : Rule) (hx : RuleOk x 126 d ex) : RuleOk x 107 d (arrowV x.ts ex) := by
 refine ⟨ent_of Tryz.func107 (by kernel_rfl) rfl, fun W pb p h hd => ?_⟩
 have hq := wantV_ge x.ts arw p
 have hb := h.lt
 have h0 := h.g0 (Gr.alloc W (.cells zc 25) _)
 have hb0 := heap_alloc_new W (.cells zc 25)
 have g0 : Gr (fun _ => False) W (W.alloc (.cells zc 25)) := Gr.alloc _ _ _
 have hz0 : (W.alloc (.cells zc 25)).heap.size = W.heap.size + 1 := by simp
 go_enter Tryz.func107, Tryz.ntmps107
 go_wp2_with fail
 generalize W.alloc (.cells zc 25) = W0 at h0 hb0 g0 hz0 ⊢
 obtain ⟨b, hbb⟩ : ∃ b, W.heap.size = b := ⟨_, rfl⟩
 have hbp : pb < b := by omega
 rw [hbb] at hb0 hz0 ⊢
 refine (want_c h0 arw).mono ?_
 rintro e w1 ⟨rfl, h1, g1⟩
 go_wp2_with fail
 refine (several_c 126 d ex hx cma h1 (hq.2.trans hd)).mono ?_
 rintro e w2 ⟨v, rfl, L2, h2, hi2, g2⟩
 obtain ⟨sa, sc, rfl⟩ := L2.sv
 go_wp2_with fail
 refine (node_c w2 16 e0 sa _ sc).mono ?_
 rintro e w3 ⟨rfl, g3⟩
 have hbN := g3.keep (g2.keep (g1.keep hb0 (by omega)) (by omega)) (fun e => e)
 obtain ⟨⟨m0, m1, m2, m3, m4⟩, f0, f1, f2, f3, f4⟩ := five_cells hbN
 have hs1 := g1.size
 have hbl := h2.lt
 go_wp2_with fail
 have gN : Gr (fun k => k = pb) W w3 := (((g0.any _).trans g1).trans g2).trans (g3.any _)
 have rep := ((L2.mono (base' := b + 1) (by omega)).g0 g3).tree 16 e0
 have hN := h2.g0 g3
 obtain ⟨hf, r1, r2, r3⟩ := fin_tree hbN rep hN hbp gN hbb
 clear m0 m1 m2 m3 m4
 obtain ⟨⟨m0, m1, m2, m3, m4⟩, _⟩ := five_cells hf
 exact bodyPost_ret (v := trv 16 e0 0 nl (.slice sa _ sc)) (by simp [results, Tryz.results107, go_sem, m0, m1, m2, m3, m4]) rfl ⟨_, rfl, r1, r2, ⟨hi2.1.trans hq.2, Nat.le_trans hq.1 hi2.2.1⟩, r3⟩

def Ps.deep (p : Ps) : Ps := { i := p.i + 1, d := p.d + 1, e := p.e }
def Ps.back (p : Ps) (d : Nat) : Ps := { p with d := d }
def deeperV (g : Rule) (p : Ps) : Tr × Ps := if p.d = 40 then (tr0, failV 161 p) else ((g p.deep).1, (g p.deep).2.back p.d)
set_option maxRecDepth 100000 in
set_option maxHeartbeats 1600000 in
theorem deeper_c (n : Nat) (g : Rule) (hE : Ent n) (h : Pz x W pb p) (he : p.e = 0) (hl : p.i < x.ts.length) (hg : ∀ W', Pz x W' pb p.deep → Gr (fun k => k = pb) W W' → Calls Tryz.prog n #[pt pb] W' fun e w' => EndR x W' pb p.deep e w' (g p.deep)) :
 Calls Tryz.prog 134 #[pt pb, .func (.func n) #[pt pb] #[]] W fun e w' => EndR x W pb p e w' (deeperV g p) := by
 have hi2 : (p.i : Int) ≤ 100000 := by have := h.hm; omega
 have hd2 : (p.d : Int) ≤ 40 := by have := h.hd; omega
 have hN0 := h.hN
 by_cases hd : p.d = 40
 ·
  rw [deeperV, if_pos hd]
  have hq := failV_same 161 p
  have q : ((p.d : Int) == 40) = true := by simp; omega
  clear hg
  have hb := h.lt
  have h0 := h.g0 (Gr.alloc W (.cells zc 25) _)
  have hb0 := heap_alloc_new W (.cells zc 25)
  have g0 : Gr (fun _ => False) W (W.alloc (.cells zc 25)) := Gr.alloc _ _ _
  have hz0 : (W.alloc (.cells zc 25)).heap.size = W.heap.size + 1 := by simp
  obtain ⟨⟨c0, c1, c2, c3⟩, k0, k1, k2, k3⟩ := h.facts
  go_enter Tryz.func134, Tryz.ntmps134
  go_wp2_with fail
  generalize W.alloc (.cells zc 25) = W0 at h0 hb0 g0 hz0 ⊢
  obtain ⟨b, hbb⟩ : ∃ b, W.heap.size = b := ⟨_, rfl⟩
  have hbp : pb < b := by omega
  rw [hbb] at hb0 hz0 ⊢
  obtain ⟨⟨m0, m1, m2, m3, m4⟩, f0, f1, f2, f3, f4⟩ := five_cells hb0
  refine (fail_c h0 161 (by decide)).mono ?_
  rintro e w1 ⟨rfl, h1, g1⟩
  have hbN := g1.keep hb0 (by omega)
  clear m0 m1 m2 m3 m4 f0 f1 f2 f3 f4
  obtain ⟨⟨m0, m1, m2, m3, m4⟩, f0, f1, f2, f3, f4⟩ := five_cells hbN
  have hbl := h1.lt
  go_wp2_with fail
  have gN : Gr (fun k => k = pb) W w1 := (g0.any _).trans g1
  have rep : Rep (fun z => b + 1 ≤ z) w1 tr0 tr0v := rep0 _ _
  have hN := h1
  obtain ⟨hf, r1, r2, r3⟩ := fin_tree hbN rep hN hbp gN hbb
  clear m0 m1 m2 m3 m4
  obtain ⟨⟨m0, m1, m2, m3, m4⟩, _⟩ := five_cells hf
  exact bodyPost_ret (v := tr0v) (by simp [results, Tryz.results134, go_sem, m0, m1, m2, m3, m4]) rfl ⟨_, rfl, r1, r2, ⟨hq.2, by show p.i ≤ (failV 161 p).i; omega⟩, r3⟩
 ·
  rw [deeperV, if_neg hd]
  have q : ((p.d : Int) == 40) = false := by simp; omega
  have hd3 : (p.d : Int) < 40 := by omega
  have hb := h.lt
  obtain ⟨⟨c0, c1, c2, c3⟩, k0, k1, k2, k3⟩ := h.facts
  have hnb : W.heap.size ≠ pb := by omega
  have hA : (W.setCell ⟨pb, 1, none⟩ (.int .i64 ((p.i : Int) + 1))).heap[pb]? = some (.cells #[.slice x.a (x.cut p) x.c, .int .i64 ((p.i : Int) + 1), .int .i64 (p.d : Int), .int .i64 p.e] 85 (0, 0)) := heap_setCell_same W pb 1 _ 85 _ h.blk
  have hB : ((W.setCell ⟨pb, 1, none⟩ (.int .i64 ((p.i : Int) + 1))).setCell ⟨pb, 2, none⟩ (.int .i64 ((p.d : Int) + 1))).heap[pb]? = some (.cells #[.slice x.a (x.cut p) x.c, .int .i64 ((p.i : Int) + 1), .int .i64 ((p.d : Int) + 1), .int .i64 p.e] 85 (0, 0)) := heap_setCell_same _ pb 2 _ 85 _ hA
  have gB : Gr (fun k => k = pb) W ((W.setCell ⟨pb, 1, none⟩ (.int .i64 ((p.i : Int) + 1))).setCell ⟨pb, 2, none⟩ (.int .i64 ((p.d : Int) + 1))) := (Gr.set (S := fun k => k = pb) W ⟨pb, 1, none⟩ _ rfl).trans (Gr.set _ _ _ rfl)
  have hsB : ((W.setCell ⟨pb, 1, none⟩ (.int .i64 ((p.i : Int) + 1))).setCell ⟨pb, 2, none⟩ (.int .i64 ((p.d : Int) + 1))).heap.size = W.heap.size := by simp
  go_enter Tryz.func134, Tryz.ntmps134
  go_wp2_with fail
  rw [hE, Oper.upon_enter]
  generalize (W.setCell ⟨pb, 1, none⟩ (.int .i64 ((p.i : Int) + 1))).setCell ⟨pb, 2, none⟩ (.int .i64 ((p.d : Int) + 1)) = WB at hB gB hsB ⊢
  have hPB : Pz x WB pb p.deep := h.upd gB (fun k hk e => by omega) (by rw [Kx.cut]; simpa [Kx.cut, he, Ps.deep] using hB) (by show p.i + 1 ≤ _; omega) (by show p.d + 1 ≤ 40; omega)
  have h0 := hPB.g0 (Gr.alloc WB (.cells zc 25) _)
  have hb0 := heap_alloc_new WB (.cells zc 25)
  have g0 : Gr (fun _ => False) WB (WB.alloc (.cells zc 25)) := Gr.alloc _ _ _
  have hz0 : (WB.alloc (.cells zc 25)).heap.size = WB.heap.size + 1 := by simp
  rw [hsB] at hb0 hz0
  generalize WB.alloc (.cells zc 25) = W0 at h0 hb0 g0 hz0 ⊢
  obtain ⟨b, hbb⟩ : ∃ b, W.heap.size = b := ⟨_, rfl⟩
  have hbp : pb < b := by omega
  rw [hbb] at hb0 hz0 ⊢
  refine (hg W0 h0 (gB.trans (g0.any _))).mono ?_
  rintro e w1 ⟨v, rfl, rep1, h1, ⟨hd1, hi1⟩, g1⟩
  have hd4 : (g p.deep).2.d = p.d + 1 := hd1
  have hi4 : p.i + 1 ≤ (g p.deep).2.i := hi1
  obtain ⟨tk, tt, tn, a1, n1, c1', a2, n2, c2', rfl⟩ := rep1.agg
  clear c0 c1 c2 c3 k0 k1 k2 k3
  obtain ⟨⟨c0, c1, c2, c3⟩, k0, k1, k2, k3⟩ := h1.facts
  have hbl := h1.lt
  have hb1 := g1.keep hb0 (by omega)
  obtain ⟨⟨m0, m1, m2, m3, m4⟩, f0, f1, f2, f3, f4⟩ := five_cells hb1
  have hs1 := g1.size
  have hbs1 : b < w1.heap.size := by omega
  rw [hd4, Int.natCast_add] at c2
  have hn1 : w1.heap.size ≠ pb := by omega
  have hn2 : w1.heap.size ≠ b := by omega
  have hn3 : pb ≠ b := by omega
  go_wp2_with fail
  clear m0 m1 m2 m3 m4 f0 f1 f2 f3 f4 c0 c1 c2 c3 k0 k1 k2 k3
  have gC : Gr (fun k => k = pb) w1 (w1.setCell ⟨pb, 2, none⟩ (.int .i64 (p.d : Int))) := Gr.set _ _ _ rfl
  have hC : Pz x (w1.setCell ⟨pb, 2, none⟩ (.int .i64 (p.d : Int))) pb ((g p.deep).2.back p.d) := h1.upd gC (fun k hk e => by omega) (heap_setCell_same w1 pb 2 _ 85 _ h1.blk) h1.hi h.hd
  generalize w1.setCell ⟨pb, 2, none⟩ (.int .i64 (p.d : Int)) = w2 at gC hC ⊢
  have hbN := gC.keep hb1 (by omega)
  have gN : Gr (fun k => k = pb) W w2 := ((gB.trans (g0.any _)).trans g1).trans gC
  have rep : Rep (fun z => b + 1 ≤ z) w2 _ _ := (rep1.mono (base' := b + 1) (by omega)).gr gC (fun k hk e => by omega)
  obtain ⟨hf, r1, r2, r3⟩ := fin_tree hbN rep hC hbp gN hbb
  have gF : Gr (fun _ => False) (set5 w2 b (.int .i64 tk) (.string tt) (.int .i64 tn) (.slice a1 n1 c1') (.slice a2 n2 c2')) ((set5 w2 b (.int .i64 tk) (.string tt) (.int .i64 tn) (.slice a1 n1 c1') (.slice a2 n2 c2')).alloc (.cells #[.int .i64 tk, .string tt, .int .i64 tn, .slice a1 n1 c1', .slice a2 n2 c2'] 25)) := Gr.alloc _ _ _
  obtain ⟨⟨m0, m1, m2, m3, m4⟩, _⟩ := five_cells (gF.keep hf (fun e => e))
  exact bodyPost_ret (v := trv tk tt tn (.slice a1 n1 c1') (.slice a2 n2 c2')) (by simp [results, Tryz.results134, go_sem, m0, m1, m2, m3, m4]) rfl ⟨_, rfl, r1.g0 gF, r2.g0 gF, ⟨rfl, by show p.i ≤ (g p.deep).2.i; omega⟩, r3.trans (gF.any _)⟩
set_option maxRecDepth 100000 in
set_option maxHeartbeats 1600000 in
theorem deeper2_c (n : Nat) (g : Rule) (hE : Ent n) (h : Pz x W pb p) (he : p.e = 0) (hl : p.i < x.ts.length) (u1 u2 : Nat) (hg : ∀ W', Pz x W' pb p.deep → Gr (fun k => k = pb) W W' → Calls Tryz.prog n #[pt u1, pt u2] W' fun e w' => EndR x W' pb p.deep e w' (g p.deep)) :
 Calls Tryz.prog 134 #[pt pb, .func (.func n) #[] #[pt u1, pt u2]] W fun e w' => EndR x W pb p e w' (deeperV g p) := by
 have hi2 : (p.i : Int) ≤ 100000 := by have := h.hm; omega
 have hd2 : (p.d : Int) ≤ 40 := by have := h.hd; omega
 have hN0 := h.hN
 by_cases hd : p.d = 40
 ·
  rw [deeperV, if_pos hd]
  have hq := failV_same 161 p
  have q : ((p.d : Int) == 40) = true := by simp; omega
  clear hg
  have hb := h.lt
  have h0 := h.g0 (Gr.alloc W (.cells zc 25) _)
  have hb0 := heap_alloc_new W (.cells zc 25)
  have g0 : Gr (fun _ => False) W (W.alloc (.cells zc 25)) := Gr.alloc _ _ _
  have hz0 : (W.alloc (.cells zc 25)).heap.size = W.heap.size + 1 := by simp
  obtain ⟨⟨c0, c1, c2, c3⟩, k0, k1, k2, k3⟩ := h.facts
  go_enter Tryz.func134, Tryz.ntmps134
  go_wp2_with fail
  generalize W.alloc (.cells zc 25) = W0 at h0 hb0 g0 hz0 ⊢
  obtain ⟨b, hbb⟩ : ∃ b, W.heap.size = b := ⟨_, rfl⟩
  have hbp : pb < b := by omega
  rw [hbb] at hb0 hz0 ⊢
  obtain ⟨⟨m0, m1, m2, m3, m4⟩, f0, f1, f2, f3, f4⟩ := five_cells hb0
  refine (fail_c h0 161 (by decide)).mono ?_
  rintro e w1 ⟨rfl, h1, g1⟩
  have hbN := g1.keep hb0 (by omega)
  clear m0 m1 m2 m3 m4 f0 f1 f2 f3 f4
  obtain ⟨⟨m0, m1, m2, m3, m4⟩, f0, f1, f2, f3, f4⟩ := five_cells hbN
  have hbl := h1.lt
  go_wp2_with fail
  have gN : Gr (fun k => k = pb) W w1 := (g0.any _).trans g1
  have rep : Rep (fun z => b + 1 ≤ z) w1 tr0 tr0v := rep0 _ _
  have hN := h1
  obtain ⟨hf, r1, r2, r3⟩ := fin_tree hbN rep hN hbp gN hbb
  clear m0 m1 m2 m3 m4
  obtain ⟨⟨m0, m1, m2, m3, m4⟩, _⟩ := five_cells hf
  exact bodyPost_ret (v := tr0v) (by simp [results, Tryz.results134, go_sem, m0, m1, m2, m3, m4]) rfl ⟨_, rfl, r1, r2, ⟨hq.2, by show p.i ≤ (failV 161 p).i; omega⟩, r3⟩
 ·
  rw [deeperV, if_neg hd]
  have q : ((p.d : Int) == 40) = false := by simp; omega
  have hd3 : (p.d : Int) < 40 := by omega
  have hb := h.lt
  obtain ⟨⟨c0, c1, c2, c3⟩, k0, k1, k2, k3⟩ := h.facts
  have hnb : W.heap.size ≠ pb := by omega
  have hA : (W.setCell ⟨pb, 1, none⟩ (.int .i64 ((p.i : Int) + 1))).heap[pb]? = some (.cells #[.slice x.a (x.cut p) x.c, .int .i64 ((p.i : Int) + 1), .int .i64 (p.d : Int), .int .i64 p.e] 85 (0, 0)) := heap_setCell_same W pb 1 _ 85 _ h.blk
  have hB : ((W.setCell ⟨pb, 1, none⟩ (.int .i64 ((p.i : Int) + 1))).setCell ⟨pb, 2, none⟩ (.int .i64 ((p.d : Int) + 1))).heap[pb]? = some (.cells #[.slice x.a (x.cut p) x.c, .int .i64 ((p.i : Int) + 1), .int .i64 ((p.d : Int) + 1), .int .i64 p.e] 85 (0, 0)) := heap_setCell_same _ pb 2 _ 85 _ hA
  have gB : Gr (fun k => k = pb) W ((W.setCell ⟨pb, 1, none⟩ (.int .i64 ((p.i : Int) + 1))).setCell ⟨pb, 2, none⟩ (.int .i64 ((p.d : Int) + 1))) := (Gr.set (S := fun k => k = pb) W ⟨pb, 1, none⟩ _ rfl).trans (Gr.set _ _ _ rfl)
  have hsB : ((W.setCell ⟨pb, 1, none⟩ (.int .i64 ((p.i : Int) + 1))).setCell ⟨pb, 2, none⟩ (.int .i64 ((p.d : Int) + 1))).heap.size = W.heap.size := by simp
  go_enter Tryz.func134, Tryz.ntmps134
  go_wp2_with fail
  rw [hE, Oper.upon_enter]
  generalize (W.setCell ⟨pb, 1, none⟩ (.int .i64 ((p.i : Int) + 1))).setCell ⟨pb, 2, none⟩ (.int .i64 ((p.d : Int) + 1)) = WB at hB gB hsB ⊢
  have hPB : Pz x WB pb p.deep := h.upd gB (fun k hk e => by omega) (by rw [Kx.cut]; simpa [Kx.cut, he, Ps.deep] using hB) (by show p.i + 1 ≤ _; omega) (by show p.d + 1 ≤ 40; omega)
  have h0 := hPB.g0 (Gr.alloc WB (.cells zc 25) _)
  have hb0 := heap_alloc_new WB (.cells zc 25)
  have g0 : Gr (fun _ => False) WB (WB.alloc (.cells zc 25)) := Gr.alloc _ _ _
  have hz0 : (WB.alloc (.cells zc 25)).heap.size = WB.heap.size + 1 := by simp
  rw [hsB] at hb0 hz0
  generalize WB.alloc (.cells zc 25) = W0 at h0 hb0 g0 hz0 ⊢
  obtain ⟨b, hbb⟩ : ∃ b, W.heap.size = b := ⟨_, rfl⟩
  have hbp : pb < b := by omega
  rw [hbb] at hb0 hz0 ⊢
  refine (hg W0 h0 (gB.trans (g0.any _))).mono ?_
  rintro e w1 ⟨v, rfl, rep1, h1, ⟨hd1, hi1⟩, g1⟩
  have hd4 : (g p.deep).2.d = p.d + 1 := hd1
  have hi4 : p.i + 1 ≤ (g p.deep).2.i := hi1
  obtain ⟨tk, tt, tn, a1, n1, c1', a2, n2, c2', rfl⟩ := rep1.agg
  clear c0 c1 c2 c3 k0 k1 k2 k3
  obtain ⟨⟨c0, c1, c2, c3⟩, k0, k1, k2, k3⟩ := h1.facts
  have hbl := h1.lt
  have hb1 := g1.keep hb0 (by omega)
  obtain ⟨⟨m0, m1, m2, m3, m4⟩, f0, f1, f2, f3, f4⟩ := five_cells hb1
  have hs1 := g1.size
  have hbs1 : b < w1.heap.size := by omega
  rw [hd4, Int.natCast_add] at c2
  have hn1 : w1.heap.size ≠ pb := by omega
  have hn2 : w1.heap.size ≠ b := by omega
  have hn3 : pb ≠ b := by omega
  go_wp2_with fail
  clear m0 m1 m2 m3 m4 f0 f1 f2 f3 f4 c0 c1 c2 c3 k0 k1 k2 k3
  have gC : Gr (fun k => k = pb) w1 (w1.setCell ⟨pb, 2, none⟩ (.int .i64 (p.d : Int))) := Gr.set _ _ _ rfl
  have hC : Pz x (w1.setCell ⟨pb, 2, none⟩ (.int .i64 (p.d : Int))) pb ((g p.deep).2.back p.d) := h1.upd gC (fun k hk e => by omega) (heap_setCell_same w1 pb 2 _ 85 _ h1.blk) h1.hi h.hd
  generalize w1.setCell ⟨pb, 2, none⟩ (.int .i64 (p.d : Int)) = w2 at gC hC ⊢
  have hbN := gC.keep hb1 (by omega)
  have gN : Gr (fun k => k = pb) W w2 := ((gB.trans (g0.any _)).trans g1).trans gC
  have rep : Rep (fun z => b + 1 ≤ z) w2 _ _ := (rep1.mono (base' := b + 1) (by omega)).gr gC (fun k hk e => by omega)
  obtain ⟨hf, r1, r2, r3⟩ := fin_tree hbN rep hC hbp gN hbb
  have gF : Gr (fun _ => False) (set5 w2 b (.int .i64 tk) (.string tt) (.int .i64 tn) (.slice a1 n1 c1') (.slice a2 n2 c2')) ((set5 w2 b (.int .i64 tk) (.string tt) (.int .i64 tn) (.slice a1 n1 c1') (.slice a2 n2 c2')).alloc (.cells #[.int .i64 tk, .string tt, .int .i64 tn, .slice a1 n1 c1', .slice a2 n2 c2'] 25)) := Gr.alloc _ _ _
  obtain ⟨⟨m0, m1, m2, m3, m4⟩, _⟩ := five_cells (gF.keep hf (fun e => e))
  exact bodyPost_ret (v := trv tk tt tn (.slice a1 n1 c1') (.slice a2 n2 c2')) (by simp [results, Tryz.results134, go_sem, m0, m1, m2, m3, m4]) rfl ⟨_, rfl, r1.g0 gF, r2.g0 gF, ⟨rfl, by show p.i ≤ (g p.deep).2.i; omega⟩, r3.trans (gF.any _)⟩
end Go.Proofs.YtjedbfbolifjjaaGreatDoor

namespace Go.Proofs.YtjedbfbolifjjaaGreatDoor
open Go.RowKit Go.Maps
variable {x : Kx} {W W' : World} {pb : Nat} {p p' : Ps}
def clauseV (ts : List Tn) (ex un : Rule) (p : Ps) : Tr × Ps := (.mk 15 e0 0 [] [(un p).1, (arrowV ts ex (un p).2).1], (arrowV ts ex (un p).2).2)
set_option maxRecDepth 100000 in
set_option maxHeartbeats 1600000 in
theorem clause_c (d : Nat) (ex un : Rule) (hx : RuleOk x 126 d ex) (hu : RuleOk x 141 d un) : RuleOk x 172 d (clauseV x.ts ex un) := by
 refine ⟨ent_of Tryz.func172 (by kernel_rfl) rfl, fun W pb p h hd => ?_⟩
 have ha := arrow_c d ex hx
 have hb := h.lt
 have h0 := h.g0 (Gr.alloc W (.cells zc 25) _)
 have hb0 := heap_alloc_new W (.cells zc 25)
 have g0 : Gr (fun _ => False) W (W.alloc (.cells zc 25)) := Gr.alloc _ _ _
 have hz0 : (W.alloc (.cells zc 25)).heap.size = W.heap.size + 1 := by simp
 go_enter Tryz.func172, Tryz.ntmps172
 go_wp2_with fail
 generalize W.alloc (.cells zc 25) = W0 at h0 hb0 g0 hz0 ⊢
 obtain ⟨b, hbb⟩ : ∃ b, W.heap.size = b := ⟨_, rfl⟩
 have hbp : pb < b := by omega
 rw [hbb] at hb0 hz0 ⊢
 refine (hu.2 W0 pb p h0 hd).mono ?_
 rintro e w1 ⟨v, rfl, rep1, h1, ⟨hd1, hi1⟩, g1⟩
 obtain ⟨tk, tt, tn, a1, n1, c1, a2, n2, c2, rfl⟩ := rep1.agg
 go_wp2_with fail
 refine (ha.2 w1 pb _ h1 (hd1.trans hd)).mono ?_
 rintro e w2 ⟨v, rfl, rep2, h2, ⟨hd2, hi2⟩, g2⟩
 obtain ⟨uk, ut, un', a3, n3, c3, a4, n4, c4, rfl⟩ := rep2.agg
 have hs1 := g1.size
 have hs2 := g2.size
 have hbl := h2.lt
 have L3 := Lr.lit2 ((rep1.mono (base' := b + 1) (by omega)).gr g2 (fun k hk e => by omega)) (rep2.mono (base' := b + 1) (by omega)) (by omega)
 have G3 : Gr (fun _ => False) w2 (w2.alloc (.cells #[.int .i64 tk, .string tt, .int .i64 tn, .slice a1 n1 c1, .slice a2 n2 c2, .int .i64 uk, .string ut, .int .i64 un', .slice a3 n3 c3, .slice a4 n4 c4] 25)) := Gr.alloc _ _ _
 go_wp2_with fail
 generalize w2.alloc _ = w3 at L3 G3 ⊢
 refine (node_c w3 15 e0 _ 2 2).mono ?_
 rintro e w4 ⟨rfl, g4⟩
 have hbN := g4.keep (G3.keep (g2.keep (g1.keep hb0 (by omega)) (by omega)) (fun e => e)) (fun e => e)
 obtain ⟨⟨m0, m1, m2, m3, m4⟩, f0, f1, f2, f3, f4⟩ := five_cells hbN
 go_wp2_with fail
 have gN : Gr (fun k => k = pb) W w4 := ((((g0.any _).trans g1).trans g2).trans (G3.any _)).trans (g4.any _)
 have rep := (L3.g0 g4).tree 15 e0
 have hN := (h2.g0 G3).g0 g4
 obtain ⟨hf, r1, r2, r3⟩ := fin_tree hbN rep hN hbp gN hbb
 clear m0 m1 m2 m3 m4
 obtain ⟨⟨m0, m1, m2, m3, m4⟩, _⟩ := five_cells hf
 exact bodyPost_ret (v := trv 15 e0 0 nl (.slice (some ⟨w2.heap.size, 0, none⟩) 2 2)) (by simp [results, Tryz.results172, go_sem, m0, m1, m2, m3, m4]) rfl ⟨_, rfl, r1, r2, ⟨hd2.trans hd1, Nat.le_trans hi1 hi2⟩, r3⟩

abbrev shutR : ByteArray := ⟨#[41]⟩
def bracketV (ts : List Tn) (ex : Rule) (p : Ps) : Tr × Ps := ((ex p).1, wantV ts shutR (ex p).2)
set_option maxRecDepth 100000 in
set_option maxHeartbeats 1600000 in
theorem bracket_c (d : Nat) (ex : Rule) (hx : RuleOk x 126 d ex) : RuleOk x 160 d (bracketV x.ts ex) := by
 refine ⟨ent_of Tryz.func160 (by kernel_rfl) rfl, fun W pb p h hd => ?_⟩
 have hq := wantV_ge x.ts shutR (ex p).2
 have hb := h.lt
 have h0 := h.g0 (Gr.alloc W (.cells zc 25) _)
 have hb0 := heap_alloc_new W (.cells zc 25)
 have g0 : Gr (fun _ => False) W (W.alloc (.cells zc 25)) := Gr.alloc _ _ _
 have hz0 : (W.alloc (.cells zc 25)).heap.size = W.heap.size + 1 := by simp
 go_enter Tryz.func160, Tryz.ntmps160
 go_wp2_with fail
 generalize W.alloc (.cells zc 25) = W0 at h0 hb0 g0 hz0 ⊢
 obtain ⟨b, hbb⟩ : ∃ b, W.heap.size = b := ⟨_, rfl⟩
 have hbp : pb < b := by omega
 rw [hbb] at hb0 hz0 ⊢
 refine (hx.2 W0 pb p h0 hd).mono ?_
 rintro e w1 ⟨v, rfl, rep1, h1, ⟨hd1, hi1⟩, g1⟩
 obtain ⟨tk, tt, tn, a1, n1, c1, a2, n2, c2, rfl⟩ := rep1.agg
 have hs1 := g1.size
 have G2 : Gr (fun _ => False) w1 (w1.alloc (.cells #[.int .i64 tk, .string tt, .int .i64 tn, .slice a1 n1 c1, .slice a2 n2 c2] 25)) := Gr.alloc _ _ _
 have hl2 := heap_alloc_new w1 (.cells #[.int .i64 tk, .string tt, .int .i64 tn, .slice a1 n1 c1, .slice a2 n2 c2] 25)
 have hbl := h1.lt
 go_wp2_with fail
 generalize w1.alloc _ = w2 at G2 hl2 ⊢
 refine (want_c (h1.g0 G2) shutR).mono ?_
 rintro e w3 ⟨rfl, h3, g3⟩
 have hl3 := g3.keep hl2 (by omega)
 obtain ⟨⟨q0, q1, q2, q3, q4⟩, _⟩ := five_cells hl3
 have hbN := g3.keep (G2.keep (g1.keep hb0 (by omega)) (fun e => e)) (by omega)
 obtain ⟨⟨m0, m1, m2, m3, m4⟩, f0, f1, f2, f3, f4⟩ := five_cells hbN
 go_wp2_with fail
 have gN : Gr (fun k => k = pb) W w3 := (((g0.any _).trans g1).trans (G2.any _)).trans g3
 have rep := ((rep1.mono (base' := b + 1) (by omega)).g0 G2).gr g3 (fun k hk e => by omega)
 have hN := h3
 obtain ⟨hf, r1, r2, r3⟩ := fin_tree hbN rep hN hbp gN hbb
 clear m0 m1 m2 m3 m4
 obtain ⟨⟨m0, m1, m2, m3, m4⟩, _⟩ := five_cells hf
 exact bodyPost_ret (v := trv tk tt tn (.slice a1 n1 c1) (.slice a2 n2 c2)) (by simp [results, Tryz.results160, go_sem, m0, m1, m2, m3, m4]) rfl ⟨_, rfl, r1, r2, ⟨hq.2.trans hd1, Nat.le_trans hi1 hq.1⟩, r3⟩

abbrev shut5 : ByteArray := ⟨#[125]⟩
def tupleV (ts : List Tn) (ex : Rule) (p : Ps) : Tr × Ps := (.mk 5 e0 0 [] (uptoV ts shut5 ex p).1, (uptoV ts shut5 ex p).2)
set_option maxRecDepth 100000 in
set_option maxHeartbeats 1600000 in
theorem gtuple_c (d : Nat) (ex : Rule) (hx : RuleOk x 126 d ex) : RuleOk x 161 d (tupleV x.ts ex) := by
 refine ⟨ent_of Tryz.func161 (by kernel_rfl) rfl, fun W pb p h hd => ?_⟩
 have hb := h.lt
 have h0 := h.g0 (Gr.alloc W (.cells zc 25) _)
 have hb0 := heap_alloc_new W (.cells zc 25)
 have g0 : Gr (fun _ => False) W (W.alloc (.cells zc 25)) := Gr.alloc _ _ _
 have hz0 : (W.alloc (.cells zc 25)).heap.size = W.heap.size + 1 := by simp
 go_enter Tryz.func161, Tryz.ntmps161
 go_wp2_with fail
 generalize W.alloc (.cells zc 25) = W0 at h0 hb0 g0 hz0 ⊢
 obtain ⟨b, hbb⟩ : ∃ b, W.heap.size = b := ⟨_, rfl⟩
 have hbp : pb < b := by omega
 rw [hbb] at hb0 hz0 ⊢
 refine (upTo_c 126 d ex hx shut5 h0 hd).mono ?_
 rintro e w1 ⟨v, rfl, L1, h1, hi1, g1⟩
 obtain ⟨sa, sc, rfl⟩ := L1.sv
 have hbl := h1.lt
 go_wp2_with fail
 refine (node_c w1 5 e0 sa _ sc).mono ?_
 rintro e w2 ⟨rfl, g2⟩
 have hbN := g2.keep (g1.keep hb0 (by omega)) (fun e => e)
 obtain ⟨⟨m0, m1, m2, m3, m4⟩, f0, f1, f2, f3, f4⟩ := five_cells hbN
 go_wp2_with fail
 have gN : Gr (fun k => k = pb) W w2 := ((g0.any _).trans g1).trans (g2.any _)
 have rep := ((L1.mono (base' := b + 1) (by omega)).g0 g2).tree 5 e0
 have hN := h1.g0 g2
 obtain ⟨hf, r1, r2, r3⟩ := fin_tree hbN rep hN hbp gN hbb
 clear m0 m1 m2 m3 m4
 obtain ⟨⟨m0, m1, m2, m3, m4⟩, _⟩ := five_cells hf
 exact bodyPost_ret (v := trv 5 e0 0 nl (.slice sa _ sc)) (by simp [results, Tryz.results161, go_sem, m0, m1, m2, m3, m4]) rfl ⟨_, rfl, r1, r2, ⟨hi1.1, hi1.2.1⟩, r3⟩

abbrev shut6 : ByteArray := ⟨#[93]⟩
def listV (ts : List Tn) (ex : Rule) (p : Ps) : Tr × Ps := (.mk 6 e0 0 [] (uptoV ts shut6 ex p).1, (uptoV ts shut6 ex p).2)
set_option maxRecDepth 100000 in
set_option maxHeartbeats 1600000 in
theorem glist_c (d : Nat) (ex : Rule) (hx : RuleOk x 126 d ex) : RuleOk x 162 d (listV x.ts ex) := by
 refine ⟨ent_of Tryz.func162 (by kernel_rfl) rfl, fun W pb p h hd => ?_⟩
 have hb := h.lt
 have h0 := h.g0 (Gr.alloc W (.cells zc 25) _)
 have hb0 := heap_alloc_new W (.cells zc 25)
 have g0 : Gr (fun _ => False) W (W.alloc (.cells zc 25)) := Gr.alloc _ _ _
 have hz0 : (W.alloc (.cells zc 25)).heap.size = W.heap.size + 1 := by simp
 go_enter Tryz.func162, Tryz.ntmps162
 go_wp2_with fail
 generalize W.alloc (.cells zc 25) = W0 at h0 hb0 g0 hz0 ⊢
 obtain ⟨b, hbb⟩ : ∃ b, W.heap.size = b := ⟨_, rfl⟩
 have hbp : pb < b := by omega
 rw [hbb] at hb0 hz0 ⊢
 refine (upTo_c 126 d ex hx shut6 h0 hd).mono ?_
 rintro e w1 ⟨v, rfl, L1, h1, hi1, g1⟩
 obtain ⟨sa, sc, rfl⟩ := L1.sv
 have hbl := h1.lt
 go_wp2_with fail
 refine (node_c w1 6 e0 sa _ sc).mono ?_
 rintro e w2 ⟨rfl, g2⟩
 have hbN := g2.keep (g1.keep hb0 (by omega)) (fun e => e)
 obtain ⟨⟨m0, m1, m2, m3, m4⟩, f0, f1, f2, f3, f4⟩ := five_cells hbN
 go_wp2_with fail
 have gN : Gr (fun k => k = pb) W w2 := ((g0.any _).trans g1).trans (g2.any _)
 have rep := ((L1.mono (base' := b + 1) (by omega)).g0 g2).tree 6 e0
 have hN := h1.g0 g2
 obtain ⟨hf, r1, r2, r3⟩ := fin_tree hbN rep hN hbp gN hbb
 clear m0 m1 m2 m3 m4
 obtain ⟨⟨m0, m1, m2, m3, m4⟩, _⟩ := five_cells hf
 exact bodyPost_ret (v := trv 6 e0 0 nl (.slice sa _ sc)) (by simp [results, Tryz.results162, go_sem, m0, m1, m2, m3, m4]) rfl ⟨_, rfl, r1, r2, ⟨hi1.1, hi1.2.1⟩, r3⟩
end Go.Proofs.YtjedbfbolifjjaaGreatDoor
