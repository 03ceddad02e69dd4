/-
  The program's Sort, over what is known of slices.SortFunc; the chapter's examples come out.
-/
import Derived.Test.YtanhigaingjalaaE
import Derived.Test.YtanhigaingjalaaD
import Derived.Shelf.SlSortCmp.NoneTotal
import Derived.Shelf.SlGeneric
import Derived.Ground.SlsfProg
import Derived.Lib.RowBridge
import Derived.Lib.SortBridge
set_option linter.unusedSimpArgs false
set_option linter.unusedVariables false
namespace Go.Proofs.Ytanhigaingjalaa
open Go.Shelf
def Try.sortL_ren : Go.Shelf.Ren := ⟨fun | 6 => 18 | 15 => 22 | 14 => 21 | 28 => 32 | 29 => 33 | 20 => 24 | 21 => 25 | 22 => 26 | 23 => 27 | 24 => 28 | 25 => 29 | 26 => 30 | 27 => 31 | 46 => 34 | 47 => 35 | 48 => 36 | 49 => 37 | 50 => 38 | 57 => 39 | n => n, fun | 22 => 29 | 24 => 22 | 25 => 34 | 3 => 3 | 39 => 37 | 0 => 0 | 53 => 22 | 55 => 24 | 4 => 4 | 46 => 41 | 45 => 40 | 50 => 45 | 5 => 5 | 9 => 9 | 66 => 49 | 70 => 53 | 76 => 55 | 77 => 56 | n => n, fun | n => n⟩
theorem Try.sortL : Go.Proofs.SlLaysF.n6 Try.prog Try.sortL_ren := {
  mixed := by kernel_rfl
  f6 := ⟨Try.f18.name, by decide, Try.func18.trans (congrArg some (by kernel_rfl))⟩
  f14 := ⟨Try.f21.name, by decide, Try.func21.trans (congrArg some (by kernel_rfl))⟩
  f15 := Try.func22.trans (congrArg some (by kernel_rfl))
  f20 := ⟨Try.f24.name, by decide, Try.func24.trans (congrArg some (by kernel_rfl))⟩
  f21 := ⟨Try.f25.name, by decide, Try.func25.trans (congrArg some (by kernel_rfl))⟩
  f22 := ⟨Try.f26.name, by decide, Try.func26.trans (congrArg some (by kernel_rfl))⟩
  f23 := ⟨Try.f27.name, by decide, Try.func27.trans (congrArg some (by kernel_rfl))⟩
  f24 := ⟨Try.f28.name, by decide, Try.func28.trans (congrArg some (by kernel_rfl))⟩
  f25 := ⟨Try.f29.name, by decide, Try.func29.trans (congrArg some (by kernel_rfl))⟩
  f26 := ⟨Try.f30.name, by decide, Try.func30.trans (congrArg some (by kernel_rfl))⟩
  f27 := ⟨Try.f31.name, by decide, Try.func31.trans (congrArg some (by kernel_rfl))⟩
  f28 := Try.func32.trans (congrArg some (by kernel_rfl))
  f29 := Try.func33.trans (congrArg some (by kernel_rfl))
  f46 := ⟨Try.f34.name, by decide, Try.func34.trans (congrArg some (by kernel_rfl))⟩
  f47 := Try.func35.trans (congrArg some (by kernel_rfl))
  f48 := Try.func36.trans (congrArg some (by kernel_rfl))
  f49 := ⟨Try.f37.name, by decide, Try.func37.trans (congrArg some (by kernel_rfl))⟩
  f50 := ⟨Try.f38.name, by decide, Try.func38.trans (congrArg some (by kernel_rfl))⟩
  f57 := ⟨Try.f39.name, by decide, Try.func39.trans (congrArg some (by kernel_rfl))⟩
  t0 := Try.underlying0
  a0 := Try.isAgg0
  z0 := Try.sizeOf0
  v0 := Try.zeroValue0
  t3 := Try.underlying3
  a3 := Try.isAgg3
  z3 := Try.sizeOf3
  v3 := Try.zeroValue3
  t4 := Try.underlying4
  a4 := Try.isAgg4
  z4 := Try.sizeOf4
  v4 := Try.zeroValue4
  t5 := Try.underlying5
  a5 := Try.isAgg5
  z5 := Try.sizeOf5
  v5 := Try.zeroValue5
  t9 := Try.underlying9
  a9 := Try.isAgg9
  z9 := Try.sizeOf9
  v9 := Try.zeroValue9
  t22 := Try.underlying29
  a22 := Try.isAgg29
  z22 := Try.sizeOf29
  v22 := Try.zeroValue29
  a24 := Try.isAgg22
  z24 := Try.sizeOf22
  t25 := Try.underlying34
  a25 := Try.isAgg34
  z25 := Try.sizeOf34
  v25 := Try.zeroValue34
  t39 := Try.underlying37
  a39 := Try.isAgg37
  z39 := Try.sizeOf37
  v39 := Try.zeroValue37
  t45 := Try.underlying40
  a45 := Try.isAgg40
  z45 := Try.sizeOf40
  v45 := Try.zeroValue40
  t46 := Try.underlying41
  a46 := Try.isAgg41
  z46 := Try.sizeOf41
  v46 := Try.zeroValue41
  t50 := Try.underlying45
  a50 := Try.isAgg45
  z50 := Try.sizeOf45
  v50 := Try.zeroValue45
  t53 := Try.underlying22
  a53 := Try.isAgg22
  z53 := Try.sizeOf22
  v53 := Try.zeroValue22
  t55 := Try.underlying24
  a55 := Try.isAgg24
  z55 := Try.sizeOf24
  v55 := Try.zeroValue24
  t66 := Try.underlying49
  a66 := Try.isAgg49
  z66 := Try.sizeOf49
  v66 := Try.zeroValue49
  t70 := Try.underlying53
  a70 := Try.isAgg53
  z70 := Try.sizeOf53
  v70 := Try.zeroValue53
  t76 := Try.underlying55
  a76 := Try.isAgg55
  z76 := Try.sizeOf55
  v76 := Try.zeroValue55
  t77 := Try.underlying56
  a77 := Try.isAgg56
  z77 := Try.sizeOf56
  v77 := Try.zeroValue56 }
end Go.Proofs.Ytanhigaingjalaa
namespace Go.Proofs.Ytanhigaingjalaa
open Go.Shelf Go.RowKit Go.Lib Go.Sort Go.Maps
variable {S S' : Nat → Prop} {W W1 W' : World}

/-- The comparison that Sort hands over. -/
def cf (base : Int) (x y : Int) : Int := cmpv (ah base x) (ah base y)
theorem lt_cf (base x y : Int) : ltOf (cf base) x y = decide (ah base x < ah base y) := by
  unfold ltOf cf cmpv
  by_cases h1 : ah base x < ah base y
  · simp [h1]
  · by_cases h2 : ah base y < ah base x <;> simp [h1, h2]
theorem swo_cf (base : Int) : SWO (ltOf (cf base)) := {
  irrefl := fun x => by rw [lt_cf]; simp
  trans := fun x y z h1 h2 => by rw [lt_cf] at *; simp at *; omega
  ntrans := fun x y z h1 h2 => by rw [lt_cf] at *; simp at *; omega }

/-- In every world that the sort passes through the closure reads its base. -/
theorem reads (base : Int) (B blk size : Nat) (w : World) (hB : B < w.heap.size) (hne : B ≠ blk) (hc : w.cell? ⟨B, 0, none⟩ = some (.int .u32 base)) :
    CmpReads Try.prog 19 #[.pointer (some ⟨B, 0, none⟩)] (Value.int .u32) (cf base) blk 0 size w := by
  intro m os dk hs x y
  refine clo_c B base x y _ ?_
  unfold sortWorld
  rw [cell?_grow _ os _ (by simpa using hB), cell?_putRow_other _ _ _ _ _ _ (.inl hne)]
  exact hc

theorem holds_bs {l : List Int} {base g cap : Nat} (h : Ow base W (.slice (some ⟨g, 0, none⟩) l.length cap) l) : Holds (Value.int .u32) W g 0 l.toArray := by
  intro j hj
  have hj' : j < l.length := by simpa using hj
  have := h.cell rfl hj'
  rw [Nat.zero_add]
  refine ⟨?_, this.2⟩
  rw [this.1]
  simp [List.getD_eq_getElem?_getD, hj']
theorem heap_sorted {n : Nat} {os : Array Obj} {g : Nat} {cur : Array Value} {e : TypeId} {fr : Nat × Nat} (d : Array Int) (hb : W.heap[g]? = some (.cells cur e fr)) :
    (sortWorld (Value.int .u32) W g 0 n d os).heap[g]? = some (.cells (putCells (Value.int .u32) 0 d cur) e fr) := by
  have hg : g < W.heap.size := (Array.getElem?_eq_some_iff.1 hb).1
  unfold sortWorld
  rw [heap_grow_old _ _ (by simpa using hg)]
  simp [putRow, mapBlock, Sort.ahead, Array.getElem?_modify, hb, onCells]
theorem gr_sorted {n : Nat} {os : Array Obj} {g : Nat} (d : Array Int) : Gr (fun k => k = g) W (sortWorld (Value.int .u32) W g 0 n d os) := by
  unfold sortWorld
  refine ⟨rfl, rfl, rfl, by simp, fun k hk hne => ?_⟩
  rw [heap_grow_old _ _ (by simpa using hk)]
  have : g ≠ k := fun e => hne e.symm
  simp [putRow, mapBlock, Sort.ahead, Array.getElem?_modify, this]
theorem take_put (cur : Array Value) (ts : List Int) (h : ts.length ≤ cur.size) : (putCells (Value.int .u32) 0 ts.toArray cur).toList.take ts.length = bs ts := by
  apply List.ext_getElem?
  intro j
  by_cases hj : j < ts.length
  · rw [List.getElem?_take_of_lt hj, Array.getElem?_toList]
    simp [putCells, hj, show j < cur.size by omega, bs]
  · rw [List.getElem?_take_eq_none (by omega), List.getElem?_eq_none (by simp; omega)]
theorem Ow.sorted {base g cap n : Nat} {os : Array Obj} {l m : List Int} (h : Ow base W (.slice (some ⟨g, 0, none⟩) l.length cap) l) (p : m.Perm l) :
    Ow base (sortWorld (Value.int .u32) W g 0 n m.toArray os) (.slice (some ⟨g, 0, none⟩) l.length cap) m := by
  have hl := p.length_eq
  refine ⟨fun x hx => h.rng x (p.subset hx), by rw [hl]; exact h.len, by simp, ?_⟩
  rcases h.row.2 with ⟨e, _⟩ | ⟨g', cap', cur, e, hb, hg, hc, hm, hcs, _⟩
  · cases e
  · cases e
    exact .inr ⟨g, cap, _, by rw [hl], hb, heap_sorted _ hg, by rw [hl]; exact hc, hm, by simp [putCells, hcs], by rw [Nat.mul_one]; exact take_put cur m (by omega)⟩
theorem so_of {base : Int} {m : List Int} (h : SortedIn (ltOf (cf base)) 0 m.length m.toArray) : So base m := by
  refine List.pairwise_iff_getElem.2 fun i j hi hj hij => ?_
  have := h i j (Nat.zero_le _) hij hj
  rw [lt_cf] at this
  simp [hi, hj] at this
  exact this
theorem perm_of {l : List Int} {d : Array Int} (h : PermIn 0 l.toArray.size l.toArray d) : d.toList.Perm l := by
  obtain ⟨h1, _, h3⟩ := h
  have e1 : d.extract 0 l.toArray.size = d := by rw [← h1]; exact Array.extract_size
  rw [e1, Array.extract_size] at h3
  simpa using h3

/-- What Sort does. -/
def SortOk : Prop := ∀ (W : World) (base : Int) (v : Value) (l : List Int), Sl W v l →
  Calls Try.prog 15 #[.int .u32 base, v] W fun e w' => ∃ v' l', e = .returned v' ∧ Ow W.heap.size w' v' l' ∧ l'.Perm l ∧ So base l' ∧ G0 W w'

set_option maxRecDepth 20000 in
set_option maxHeartbeats 1000000 in
theorem sort_none (W : World) (base : Int) (v : Value) (h : Sl W v []) :
    Calls Try.prog 15 #[.int .u32 base, v] W fun e w' => ∃ v', e = .returned v' ∧ Ow W.heap.size w' v' [] ∧ G0 W w' := by
  have hS := fun p c fv w => AnyF.slices_SortFunc_none (P := Try.prog) (ρ := Try.sortL_ren) { Try.sortL with } p c fv w
  change ∀ p c fv w, Calls Try.prog 18 _ _ _ at hS
  have h0 := h
  obtain ⟨a, cap, rfl, h1, h2, -⟩ := h.sv
  clear h
  have g0 : G0 W (W.alloc (.cells #[.int .u32 base] 22)) := Gr.alloc _ _ _
  have hsz : W.heap.size + 1 ≤ (W.alloc (.cells #[.int .u32 base] 22)).heap.size := by simp
  go_enter Try.func15, Try.ntmps15
  go_wp2_with (at_builtin; refine wpList_app _ rfl _ _ rfl (W.heap.size + 1) _ _ [] [] rfl rfl (Ow.nil _ _) (h0.g0 g0) (by simp) hsz ?_; intro v1 w1 o1 g1 n1 b1)
  have q1 : G0 W w1 := g0.new ((Ow.nil (W.heap.size + 1) _).grown g1) (Nat.le_succ _)
  obtain ⟨a1, c1, rfl⟩ := o1.sv
  clear g1 n1 b1
  go_wp2_with (go_at_call 18; refine (hS _ _ _ _).mono ?_; rintro e w' ⟨rfl, rfl⟩)
  go_ret
  exact ⟨_, rfl, o1.mono (Nat.le_succ _), q1⟩

set_option maxRecDepth 20000 in
set_option maxHeartbeats 1000000 in
theorem sort_some (W : World) (base : Int) (v : Value) (l : List Int) (h : Sl W v l) (hn : l ≠ []) :
    Calls Try.prog 15 #[.int .u32 base, v] W fun e w' => ∃ v' l', e = .returned v' ∧ Ow W.heap.size w' v' l' ∧ l'.Perm l ∧ So base l' ∧ G0 W w' := by
  have eg : ∀ args w, (callFunc 19 args).run Try.prog w = .ok (.enter 19 args) w := enters_of Try.func19 (by kernel_rfl) rfl
  have h0 := h
  have hl := h.len
  obtain ⟨a, cap, rfl, h1, h2, -⟩ := h.sv
  clear h
  have g0 : G0 W (W.alloc (.cells #[.int .u32 base] 22)) := Gr.alloc _ _ _
  have hsz : W.heap.size + 1 ≤ (W.alloc (.cells #[.int .u32 base] 22)).heap.size := by simp
  have hB := heap_alloc_new W (.cells #[.int .u32 base] 22)
  have hn' := Lib.hid hn
  clear hn
  go_enter Try.func15, Try.ntmps15
  go_wp2_with (at_builtin; refine wpList_app _ rfl _ _ rfl (W.heap.size + 1) _ _ [] l rfl rfl (Ow.nil _ _) (h0.g0 g0) (by simpa using h0.len) hsz ?_; intro v1 w1 o1 g1 n1 b1)
  have q1 : G0 W w1 := g0.new ((Ow.nil (W.heap.size + 1) _).grown g1) (Nat.le_succ _)
  have gb : Gr (fun k => W.heap.size + 1 ≤ k) (W.alloc (.cells #[.int .u32 base] 22)) w1 := (Ow.nil (W.heap.size + 1) _).grown g1
  have o1' : Ow (W.heap.size + 1) w1 v1 l := by simpa using o1
  obtain ⟨g, c1, rfl, hg⟩ := o1'.form hn'.out
  have hB1 : w1.heap[W.heap.size]? = some (.cells #[.int .u32 base] 22) := (gb.block W.heap.size (by omega) (by omega)).trans hB
  have hc1 : w1.cell? ⟨W.heap.size, 0, none⟩ = some (.int .u32 base) := by simp [World.cell?, hB1]
  have hlt1 : W.heap.size < w1.heap.size := by have := gb.size; omega
  have hS := Any.slices_SortFunc Try.sortL (Value.int .u32) (fun _ => rfl) (cf base) (swo_cf base) 19 #[.pointer (some ⟨W.heap.size, 0, none⟩)] g 0 c1 l.toArray w1 eg
    (reads base W.heap.size g l.toArray.size w1 hlt1 (by omega) hc1).lays (holds_bs o1') (o1'.lt g rfl).2 (by simp; omega)
  change Calls Try.prog 18 _ _ _ at hS
  rw [show l.toArray.size = l.length by simp] at hS
  clear g1 n1 b1 gb
  replace hB := Lib.hid hB
  replace hB1 := Lib.hid hB1
  replace o1 := Lib.hid o1
  go_wp2_with (go_at_call 18; refine hS.mono ?_; rintro e w' ⟨rfl, d', n, os, hp, hs, rfl⟩)
  have p := perm_of (l := l) (d := d') (by simpa using hp)
  have s' : So base d'.toList := so_of (by rw [p.length_eq]; simpa using hs)
  have o2 := o1'.sorted (n := n) (os := os) p
  rw [Array.toArray_toList] at o2
  have g2 := gr_sorted (W := w1) (n := n) (os := os) (g := g) d'
  go_ret
  exact ⟨_, _, rfl, o2.mono (Nat.le_succ _), p, s', q1.trans' g2 (fun i hi e => by omega)⟩
theorem sort_ok : SortOk := by
  intro W base v l h
  by_cases hn : l = []
  · subst hn
    refine (sort_none W base v h).mono ?_
    rintro e w' ⟨v', rfl, o, g⟩
    exact ⟨v', [], rfl, o, .refl _, by simp, g⟩
  · exact sort_some W base v l h hn

theorem ex_so : So 4294967295 [4294967295, 0, 4294967294] := by simp [So, ah]
theorem ex_sort (W : World) (v : Value) (h : Sl W v [0, 4294967295, 4294967294]) :
    Calls Try.prog 15 #[.int .u32 4294967295, v] W fun e w' => ∃ g cap, e = .returned (.slice (some ⟨g, 0, none⟩) 3 cap) ∧ w'.cell? ⟨g, 0, none⟩ = some (.int .u32 4294967295) ∧ w'.cell? ⟨g, 1, none⟩ = some (.int .u32 0) ∧ g < w'.heap.size ∧ G0 W w' := by
  refine (sort_ok W 4294967295 v _ h).mono ?_
  rintro e w' ⟨v', l', rfl, o, p, s, hg⟩
  have p2 : [0, 4294967295, 4294967294].Perm [4294967295, 0, (4294967294 : Int)] := List.Perm.swap _ _ _
  obtain rfl : l' = [4294967295, 0, 4294967294] := so_one o.rng s ex_so (p.trans p2)
  obtain ⟨g, cap, rfl, hgb⟩ := o.form (by simp)
  have c0 := (o.cell rfl (j := 0) (by simp)).1
  have c1 := (o.cell rfl (j := 1) (by simp)).1
  exact ⟨g, cap, rfl, c0, c1, (o.lt g rfl).2, hg⟩
theorem ex_less : ls 4294967295 0 = true ∧ ls 0 2147483648 = false := by decide
theorem ex_in : decide (ah 4294967294 0 < 3) = true := by decide
theorem ex_ahead : ah 1 3 = 2 := by decide
theorem ex_max : mx 4294967295 0 = 0 := by decide

set_option maxRecDepth 20000 in
set_option maxHeartbeats 1000000 in
theorem alive_ok : AliveOk := by
  intro W
  have k1 := less_c 4294967295 0
  have k2 := less_c 0 2147483648
  have k3 := in_c 4294967294 3 0
  have k4 := ahead_c 1 3
  have k5 := max_c 4294967295 0
  rw [ex_less.1] at k1
  rw [ex_less.2] at k2
  rw [ex_in] at k3
  rw [ex_ahead] at k4
  rw [ex_max] at k5
  have lit := Ow.lit W.heap.size W [0, 4294967295, 4294967294] (by simp [Rg]) (by simp) (Nat.le_refl _) #[.int .u32 0, .int .u32 4294967295, .int .u32 4294967294] rfl 3 rfl
  have g0 : G0 W (W.alloc (.cells #[.int .u32 0, .int .u32 4294967295, .int .u32 4294967294] 22)) := Gr.alloc _ _ _
  go_enter Try.func8, Try.ntmps8
  go_wp2_with fail
  refine (ex_sort _ _ lit.sl).mono ?_
  rintro e w1 ⟨g, cap, rfl, c0, c1, hlt, hg⟩
  go_wp2_with fail
  refine (k1 _).mono ?_
  rintro e w' ⟨rfl, rfl⟩
  go_wp2_with fail
  refine (k2 _).mono ?_
  rintro e w' ⟨rfl, rfl⟩
  go_wp2_with fail
  refine (k3 _).mono ?_
  rintro e w' ⟨rfl, rfl⟩
  go_wp2_with fail
  refine (k4 _).mono ?_
  rintro e w' ⟨rfl, rfl⟩
  go_wp2_with fail
  refine (k5 _).mono ?_
  rintro e w' ⟨rfl, rfl⟩
  go_wp2_with fail
  go_ret
  exact ⟨by simp, g0.trans hg⟩
end Go.Proofs.Ytanhigaingjalaa
