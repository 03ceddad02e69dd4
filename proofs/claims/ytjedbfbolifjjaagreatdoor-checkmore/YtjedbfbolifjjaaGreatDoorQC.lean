/-
  The walk of CheckTurns.
  A byte that came in.
-/
import Derived.Test.YtjedbfbolifjjaaGreatDoorHH
import Derived.Test.YtjedbfbolifjjaaGreatDoorJT
import Derived.Test.YtjedbfbolifjjaaGreatDoorPZ
import Derived.Test.YtjedbfbolifjjaaGreatDoorMI
set_option linter.unusedVariables false
set_option linter.unusedSimpArgs false
namespace Go.Proofs.YtjedbfbolifjjaaGreatDoor
open Go.RowKit Go.Maps
variable {W W' : World}
theorem text_prog {s : ByteArray} {T : Tr} (h : textV s = .ok T) : ∃ l, T = .mk 18 e0 0 [] l := by
 unfold textV at h
 cases hv : scanV s with
 | error p => rw [hv] at h; cases h
 | ok x =>
  rw [hv] at h
  have h' : parseV (x.map tnOf) = .ok T := h
  unfold parseV at h'
  split at h'
  · cases h'
  · cases h'
    exact ⟨_, rfl⟩
theorem text_few {s : ByteArray} {T : Tr} (h : textV s = .ok T) : ∀ U ∈ preL [T], U.l.length ≤ 8009 := by
 unfold textV at h
 cases hv : scanV s with
 | error p => rw [hv] at h; cases h
 | ok l =>
  rw [hv] at h
  obtain ⟨h1, h2⟩ := scanV_all hv
  have := parse_sm (B := 60) (ts := l.map tnOf) (fun t ht => by obtain ⟨u, hu, rfl⟩ := List.mem_map.1 ht; exact (h1 u hu).1) h
  intro U hU
  obtain ⟨k, s', n, b, q⟩ := U
  have h3 := this _ hU
  rw [List.length_map] at h3
  have := h3.2
  show q.length ≤ _
  omega
section
variable {ops : Array Oper} {o : Oper} {a : Act} {w : World} {K : Act → World → Prop} {Q : Exit → Act → World → Prop} {E : Prop}
/-- Trees from any place put behind a row of the call's own, as one step of a region that draws. -/
theorem step_row (i0 : TypeInfo) (hi0 : Tryz.prog.info? 25 = some i0) (hzz : i0.zero = some (trv 0 e0 0 nl nl)) (hz1 : i0.size = 5) (hz2 : i0.bytes = 80) (hgd : o.guard = none) (x y : Operand) (ho : o.op = .call { callee := .builtin .append, args := #[x, y], argTypes := #[23, 23] }) (base : Nat) (v : Value) (n m : Nat) (xs : List Value) (ad : Addr) (c : Nat) (news : List Value)
 (hx : a.eval x = v) (hy : a.eval y = .slice (some ad) m c) (hv : w.ownsRow base 25 5 v n xs) (hl : news.length = m * 5) (hnews : ∀ j u, news[j]? = some u → w.cell? (ad.add j) = some u) (h1 : ∀ u ∈ news, u.oneCell' = true) (hn : n + m ≤ 200000) (hb : base ≤ w.heap.size)
 (h : ∀ v' w', w'.ownsRow base 25 5 v' (n + m) (xs ++ news) → Gr (fun k => base ≤ k) w w' → (∀ z o, w.heap[z]? = some o → v.ownBlock ≠ some z → w'.heap[z]? = some o ∧ v'.ownBlock ≠ some z) → K (a.put o.dst v') w') :
 if Region.wanted o (yielded ops a.tmps) = true then Oper.wp Tryz.prog o a w K Q else E := by
 have hw : Region.wanted o (yielded ops a.tmps) = true := by simp [Region.wanted, hgd]
 rw [if_pos hw]
 obtain ⟨v', w', hr, hown', hgrow, _, hloc⟩ := run_append_own_at (P := Tryz.prog) w base 23 o.type 25 i0 (trv 0 e0 0 nl nl) 5 80 Tryz.underlying23 hi0 hzz hz1 hz2 rfl (by decide) v n xs hv ad m c news hl hnews h1 (by unfold maxLen; omega) (by omega) hb
 unfold Oper.wp execOp
 simp only [ho, resolve, invoke, builtin, Sem.run_bind, Sem.run_pure, Result.andThen_ok, List.map_toArray, List.map_cons, List.map_nil, hx, hy, hr]
 exact h v' w' hown' (Gr.of_grown hgrow (fun z e => (ownsRow_lt hv z e).1)) (fun z o h1 h2 => ⟨(hgrow.block z (Array.getElem?_eq_some_iff.1 h1).1 (fun e => h2 e.symm)).trans h1, fun e => by
  have hz := (Array.getElem?_eq_some_iff.1 h1).1
  rcases hloc with h | h
  · exact h2 (h ▸ e)
  · rw [h] at e; cases e; omega⟩)
end
theorem turns_fin {A : Nat → Prop} {w7 w : World} {zb : Nat} {v : Value} {l1 l2 : List Tr} {vs1 vs2 : List Value} (G : Gr (fun k => w7.heap.size ≤ k) w7 w) (row : w.ownsRow w7.heap.size 25 5 v (l1.length + l2.length) (vs1.flatMap cellsOf ++ vs2.flatMap cellsOf)) (p1 : Reps A w l1 vs1) (p2 : Reps A w l2 vs2) (hA : ∀ z, A z → z < w7.heap.size)
 (hz : w.heap[zb]? = some (.cells zc 25 (0, 0))) (hne : v.ownBlock ≠ some zb) (hzn : w7.heap.size ≤ zb) :
 Gr (fun k => w7.heap.size ≤ k) w7 (set5 w zb (.int .i64 18) (.string e0) (.int .i64 0) nl v) ∧ Rep (fun k => k < (set5 w zb (.int .i64 18) (.string e0) (.int .i64 0) nl v).heap.size) (set5 w zb (.int .i64 18) (.string e0) (.int .i64 0) nl v) (.mk 18 e0 0 [] (l1 ++ l2)) (trv 18 e0 0 nl v) ∧
  (set5 w zb (.int .i64 18) (.string e0) (.int .i64 0) nl v).heap[zb]? = some (.cells #[.int .i64 18, .string e0, .int .i64 0, nl, v] 25 (0, 0)) := by
 have gs := set5_gr w zb (.int .i64 18) (.string e0) (.int .i64 0) nl v
 have hf := set5_heap hz (.int .i64 18) (.string e0) (.int .i64 0) nl v
 have hss := gs.size
 generalize set5 w zb (.int .i64 18) (.string e0) (.int .i64 0) nl v = wF at *
 have hGs := G.size
 refine ⟨G.trans' gs (fun k _ e => by omega), ?_, hf⟩
 have e1 : vs1.flatMap cellsOf ++ vs2.flatMap cellsOf = (vs1 ++ vs2).flatMap cellsOf := by rw [List.flatMap_append]
 have e2 : l1.length + l2.length = (l1 ++ l2).length := by rw [List.length_append]
 rw [e1, e2] at row
 refine ⟨nl, v, vs1 ++ vs2, rfl, .inl ⟨rfl, _, _, rfl⟩, ?_, ?_⟩
 · rcases row.2 with ⟨rfl, h0⟩ | ⟨g, cap, cur, rfl, hg, h2, h3, _, _, h6⟩
   · exact .inl ⟨h0, _, _, rfl⟩
   · have hgz : g ≠ zb := fun e => hne (by rw [e]; rfl)
     have hgl := (Array.getElem?_eq_some_iff.1 h2).1
     exact .inr ⟨g, cap, cur, rfl, by omega, gs.keep h2 hgz, h3, h6⟩
 · have hT : Turn A (fun k => k < wF.heap.size) w wF := fun z hz hl => ⟨by have := hA z hz; omega, gs.block z hl (by have := hA z hz; omega)⟩
   exact Reps.app (p2.turn hT) (p1.turn hT)
theorem row_empty {w0 : World} {base : Nat} (h : base ≤ w0.heap.size) : (w0.alloc (.cells #[] 25)).ownsRow base 25 5 (.slice (some ⟨w0.heap.size, 0, none⟩) 0 0) 0 [] := by
 simpa using World.ownsRow_lit (base := base) (e := 25) (size := 5) w0 #[] 0 h (by unfold maxLen; omega) rfl
theorem wpAnyL_two {P : Program} {ops : Array Oper} {Q : Exit → Act → World → Prop} {md : Region.Mode} {T : World → Prop} {L i j : Nat} {o o' : Oper} {f : Nat} {listed : Array Bool} {a : Act} {w : World} (hr : Region.ready md ops listed = [i, j]) (ho : ops[i]? = some o) (ho' : ops[j]? = some o')
 (h : ∀ K' : Act → World → Prop, Shut (∀ a w, (i ≠ L → T w) → wpAnyL P md ops Q T L f (listed.setIfInBounds i true) a w → K' a w) → if Region.wanted o (yielded ops a.tmps) = true then Oper.wp P o a w K' Q else K' (a.put o.dst undef) w)
 (h' : ∀ K' : Act → World → Prop, Shut (∀ a w, (j ≠ L → T w) → wpAnyL P md ops Q T L f (listed.setIfInBounds j true) a w → K' a w) → if Region.wanted o' (yielded ops a.tmps) = true then Oper.wp P o' a w K' Q else K' (a.put o'.dst undef) w) : wpAnyL P md ops Q T L (f + 1) listed a w := by
 refine ⟨fun h0 => (by rw [hr] at h0; cases h0), fun k hk => ?_⟩
 rw [hr] at hk
 rcases List.mem_cons.1 hk with rfl | hk
 · exact wpOp_step ho (fun K' hK => h K' (fun a w h1 h2 => hK a w ⟨h1, h2⟩))
 · rw [List.mem_singleton] at hk
   subst hk
   exact wpOp_step ho' (fun K' hK => h' K' (fun a w h1 h2 => hK a w ⟨h1, h2⟩))
end Go.Proofs.YtjedbfbolifjjaaGreatDoor

namespace Go.Proofs.YtjedbfbolifjjaaGreatDoor
open Go.RowKit Go.Maps
theorem u8_of {n : Int} (h : (Lit.int .u8 n).wf = true) : 0 ≤ n ∧ n ≤ 255 := by
 have h' : (decide (IntKind.u8.min ≤ n) && decide (n ≤ IntKind.u8.max)) = true := h
 rw [Bool.and_eq_true, decide_eq_true_eq, decide_eq_true_eq] at h'
 exact ⟨by have := h'.1; simpa [IntKind.min, IntKind.signed] using this, by have := h'.2; simpa [IntKind.max, IntKind.signed, IntKind.bits] using this⟩
end Go.Proofs.YtjedbfbolifjjaaGreatDoor
