/-
  The document's own list of names, as the statements keep it: what it answers.
-/
import Derived.Test.YtipdniiamaaolaaN
import Derived.Test.YtipdniiamaaolaaO
import Derived.Deep.AppendSrc
namespace Go.Proofs.Ytipdniiamaaolaa
open Go.RowKit Go.Maps Go.WideMaps Go.Shelf

theorem fnd_append (a b : List ByteArray) (s : ByteArray) : ∀ n, fnd (a ++ b) s n = (fnd a s n).or (fnd b s (n + a.length)) := by
  induction a with
  | nil => intro n; simp [fnd]
  | cons x r ih =>
    intro n
    by_cases h : x = s
    · simp [fnd, h]
    · simp only [List.cons_append, fnd, h, if_false, ih, List.length_cons]
      rw [show n + 1 + r.length = n + (r.length + 1) by omega]
theorem take_at {l : List ByteArray} {k : Nat} (hk : k < l.length) : l.take (k + 1) = l.take k ++ [at_ l k] := by
  have e : at_ l k = l[k] := by simp [at_, hk]
  rw [e, List.take_succ_eq_append_getElem hk]
theorem fnd_hit {l : List ByteArray} {s : ByteArray} {k : Nat} (hk : k < l.length) (h : fnd (l.take k) s 0 = none) (e : at_ l k = s) : fnd l s 0 = some k := by
  have h1 : fnd (l.take (k + 1)) s 0 = some k := by rw [take_at hk, fnd_snoc, h]; simp [e]; omega
  rw [← List.take_append_drop (k + 1) l, fnd_append, h1]
  rfl
theorem fnd_miss {l : List ByteArray} {s : ByteArray} {k : Nat} (hk : k < l.length) (h : fnd (l.take k) s 0 = none) (e : ¬ at_ l k = s) : fnd (l.take (k + 1)) s 0 = none := by
  rw [take_at hk, fnd_snoc, h]; simp [e]

set_option maxRecDepth 100000 in
set_option maxHeartbeats 1600000 in
theorem refFind_c (W : World) (lv : Value) (l : List ByteArray) (s : ByteArray) (hl : Snap W lv l) :
    Calls Try.prog 15 #[lv, .string s] W fun e W' => e = .returned (.int .i64 (av l s)) ∧ W = W' := by
  obtain ⟨al, cl, rfl⟩ := hl.sv
  have hll : (l.length : Int) ≤ 4096 := by have := hl.1; omega
  go_enter Try.func15, Try.ntmps15
  go_wp2
  go_loop [5] (fun i => ∃ k : Nat, k ≤ l.length ∧ i = .int .i64 k ∧ fnd (l.take k) s 0 = none) (fun i => l.length - (intOf i).toNat)
  case atStart => exact ⟨0, Nat.zero_le _, rfl, rfl⟩
  case round =>
    obtain ⟨k, hk, rfl, hf⟩ := hrel
    by_cases hlt : k < l.length
    · obtain ⟨g, rfl, cg⟩ := hl.cell hlt
      by_cases e : at_ l k = s
      · rw [e] at cg
        have hr : av l s = (k : Int) := by simp [av, fnd_hit hlt hf e]
        go_wp2
        go_ret
        exact ⟨rfl, rfl⟩
      · have hb := toList_ne e
        go_wp2
        go_round
        case rel => exact ⟨k + 1, by omega, by simp, fnd_miss hlt hf e⟩
        case measure => go_light; simp only [intOf]; omega
    · obtain rfl : k = l.length := by omega
      have hr : av l s = -1 := by rw [List.take_length] at hf; simp [av, hf]
      go_wp2
      go_ret
      exact ⟨rfl, rfl⟩

theorem snap_cells {X : World} {g : Nat} {l : List ByteArray} (hc : ∀ k, k < l.length → X.cell? ⟨g, k, none⟩ = some (.string (at_ l k))) : ∀ j u, (l.map Value.string)[j]? = some u → X.cell? ((⟨g, 0, none⟩ : Addr).add j) = some u := by
  intro j u hj
  have hjl : j < l.length := by
    rcases Nat.lt_or_ge j l.length with h | h
    · exact h
    · simp [List.getElem?_eq_none (show (l.map Value.string).length ≤ j by simpa using h)] at hj
  have e2 : (⟨g, 0, none⟩ : Addr).add j = ⟨g, j, none⟩ := by simp [Addr.add_lit]
  rw [e2, hc j hjl]
  simp [hjl] at hj
  simp [at_, hjl, hj]
theorem snap_src {X : World} {al : Option Addr} {cl : Nat} {l : List ByteArray} (h : Snap X (.slice al l.length cl) l) : Src Try.prog 1 27 (.slice al l.length cl) l.length (l.map Value.string) X := by
  rcases h.2 with ⟨rfl, a, cap, e⟩ | ⟨g, cap, e, hc⟩
  · cases al with
    | none => exact Src.ofNil X (tx := 27) Try.underlying27 cl
    | some a => exact Src.ofSlice X (tx := 27) Try.underlying27 a 0 cl [] rfl (by simp) (by simp)
  · cases e
    exact Src.ofSlice X (tx := 27) Try.underlying27 ⟨g, 0, none⟩ l.length cl (l.map Value.string) (by simp) (snap_cells hc) (by simp [Value.oneCell'])

/-- A copy of the list, made by append onto an empty one. -/
theorem app_all (X : World) (al : Option Addr) (cl : Nat) (l : List ByteArray) (hl : Snap X (.slice al l.length cl) l) :
    ∃ v1 w1, (Builtin.append_ #[27, 27] 27 #[.slice (some ⟨X.heap.size, 0, none⟩) 0 0, .slice al l.length cl]).run Try.prog (X.alloc (.cells #[] 9)) = .ok v1 w1 ∧
      w1.ownsRow 0 9 1 v1 l.length (l.map Value.string) ∧ Gr (fun _ => False) X w1 ∧ ∀ k, v1.ownBlock = some k → X.heap.size ≤ k := by
  obtain ⟨i0, hi, hz0, hz1, hz2⟩ := info_parts info9
  have hl2 : Snap (X.alloc (.cells #[] 9)) (.slice al l.length cl) l := hl.gr (Gr.alloc X _ (fun _ => False)) (fun _ _ e => e)
  have hs := snap_src hl2
  have hlen := hl.1
  by_cases h0 : l.length = 0
  · have hn : l = [] := List.eq_nil_of_length_eq_zero h0
    subst hn
    have hr := run_append_room_src (P := Try.prog) (X.alloc (.cells #[] 9)) 27 27 27 9 i0 Try.underlying27 hi X.heap.size 0 0 0 _ 0 [] (by rw [hz1]; exact hs) (Nat.le_refl _) (by simp) (by simp)
    refine ⟨_, _, hr, ?_, Gr.alloc X _ _, fun k e => by cases e; exact Nat.le_refl _⟩
    exact ⟨rfl, .inr ⟨X.heap.size, 0, #[], rfl, Nat.zero_le _, heap_alloc_new _ _, Nat.le_refl _, Nat.zero_le _, rfl, rfl⟩⟩
  · rcases hl2.2 with ⟨e, _⟩ | ⟨g, cap, e, hc⟩
    · rw [e] at h0; exact absurd rfl h0
    · cases e
      have hown : (X.alloc (.cells #[] 9)).ownsRow 0 9 1 (.slice (some ⟨X.heap.size, 0, none⟩) 0 0) 0 [] := ⟨rfl, .inr ⟨X.heap.size, 0, #[], rfl, Nat.zero_le _, heap_alloc_new _ _, Nat.le_refl _, Nat.zero_le _, rfl, rfl⟩⟩
      obtain ⟨v1, w1, hr, ho, hg, _, hloc⟩ := run_append_own_at (P := Try.prog) (X.alloc (.cells #[] 9)) 0 27 27 9 i0 (.string ⟨#[]⟩) 1 16 Try.underlying27 hi hz0 hz1 hz2 rfl (by decide) _ 0 [] hown ⟨g, 0, none⟩ l.length cl (l.map Value.string) (by simp) (snap_cells hc) (by simp [Value.oneCell']) (by unfold maxLen; omega) (by omega) (Nat.zero_le _)
      refine ⟨v1, w1, hr, by simpa using ho, ?_, fun k hk => ?_⟩
      · exact (Gr.alloc X (.cells #[] 9) (fun _ => False)).trans' (Gr.of_grown (S := fun i => i = X.heap.size) hg (fun k e => by simp [Value.ownBlock] at e; exact e.symm)) (fun i hi e => by omega)
      · rcases hloc with e | e
        · rw [e] at hk; simp [Value.ownBlock] at hk; omega
        · rw [e] at hk; simp at hk; omega

theorem wpList_apprun (w : World) {ops : Array Oper} {rest : List Oper} {o : Oper} {a : Act} {Q : Exit → Act → World → Prop} (hgd : o.guard = none) (s x : Operand)
    (ho : o.op = .call { callee := .builtin .append, args := #[s, x], argTypes := #[27, 27] }) (sv xv : Value) (hs : a.eval s = sv) (hx : a.eval x = xv) {v1 : Value} {w1 : World}
    (hr : (Builtin.append_ #[27, 27] o.type #[sv, xv]).run Try.prog w = .ok v1 w1) (h : wpList Try.prog ops Q rest (a.put o.dst v1) w1) :
    wpList Try.prog ops Q (o :: rest) a w := by
  refine wpList_plain hgd fun K hK => ?_
  unfold Oper.wp execOp
  simp only [ho, resolve, invoke, builtin, Sem.run_bind, Sem.run_pure, Result.andThen_ok, List.map_toArray, List.map_cons, List.map_nil, hs, hx, hr]
  exact hK _ _ h
theorem app_end {W w1 w3 : World} {v1 : Value} {g : Nat} {o : Obj} (hg1 : Gr (fun _ => False) W w1) (hb1 : ∀ k, v1.ownBlock = some k → W.heap.size ≤ k)
    (hloc : (v1.ownBlock = some g ∧ (w1.alloc o).grownBy w3 (some g)) ∨ (g = (w1.alloc o).heap.size ∧ (w1.alloc o).grownBy w3 none)) : Gr (fun _ => False) W w3 ∧ W.heap.size ≤ g := by
  have hs := hg1.size
  rcases hloc with ⟨e, hg⟩ | ⟨e, hg⟩
  · have h := hb1 g e
    exact ⟨(hg1.trans (Gr.alloc w1 o _)).trans' (Gr.of_grown (S := fun i => i = g) hg (fun k e => by cases e; rfl)) (fun i hi e => by omega), h⟩
  · simp at e
    exact ⟨(hg1.trans (Gr.alloc w1 o _)).trans (Gr.of_grown hg (fun k e => by cases e)), by omega⟩
theorem ownsRow_snap {X : World} {v : Value} {l : List ByteArray} (hl : l.length ≤ 4096) (h : X.ownsRow 0 9 1 v l.length (l.map Value.string)) : Snap X v l := by
  refine ⟨hl, ?_⟩
  rcases h.2 with ⟨rfl, e⟩ | ⟨g, cap, cur, rfl, _⟩
  · exact .inl ⟨List.eq_nil_of_length_eq_zero e, _, _, rfl⟩
  · refine .inr ⟨g, cap, rfl, fun k hk => ?_⟩
    have := h.cellAt (g := g) k (by omega)
    rw [this]
    simp [hk, at_]

set_option maxRecDepth 100000 in
set_option maxHeartbeats 1600000 in
theorem refPut_c (W : World) (lv : Value) (l : List ByteArray) (s : ByteArray) (hl : Snap W lv l) :
    Calls Try.prog 13 #[lv, .string s] W fun e W' => ∃ lv', e = .returned (.tuple #[lv', .int .i64 (putN l s), .int .i64 (putE l s)]) ∧ Snap W' lv' (putL l s) ∧ Gr (fun _ => False) W W' ∧ (lv' = lv ∨ ∀ k, lv'.ownBlock = some k → W.heap.size ≤ k ∧ k < W'.heap.size) := by
  obtain ⟨al, cl, rfl⟩ := hl.sv
  have hll := hl.1
  by_cases hs : isName s = true
  · have hr : (!isName s) = false := by simp [hs]
    rcases hf : fnd l s 0 with _ | k
    · have ha : av l s = -1 := by simp [av, hf]
      by_cases h4 : 4096 ≤ l.length
      · rw [show putN l s = 0 by simp [putN, hs, hf, h4], show putE l s = 31 by simp [putE, hs, hf, h4], show putL l s = l by simp [putL, hs, hf, h4]]
        have h5 : ((l.length : Int) == 4096) = true := beq_iff_eq.2 (by omega)
        go_enter Try.func13, Try.ntmps13
        go_wp2_with (first | (go_at_call 11; refine (name_c s _).mono ?_; rintro e w1 ⟨rfl, rfl⟩) | (go_at_call 15; refine (refFind_c _ _ l s hl).mono ?_; rw [ha]; rintro e w2 ⟨rfl, rfl⟩))
        go_ret3
        exact ⟨_, rfl, hl, Gr.refl _ _, .inl rfl⟩
      · rw [show putN l s = (l.length : Int) by simp [putN, hs, hf, h4], show putE l s = 0 by simp [putE, hs, hf, h4], show putL l s = l ++ [s] by simp [putL, hs, hf, h4]]
        have h5 : ((l.length : Int) == 4096) = false := beq_eq_false_iff_ne.2 (by omega)
        obtain ⟨v1, w1, hrun, ho1, hg1, hb1⟩ := app_all W al cl l hl
        go_enter Try.func13, Try.ntmps13
        go_wp2_with (first
          | (go_at_call 11; refine (name_c s _).mono ?_; rintro e wa ⟨rfl, rfl⟩)
          | (go_at_call 15; refine (refFind_c _ _ l s hl).mono ?_; rw [ha]; rintro e wb ⟨rfl, rfl⟩)
          | (at_builtin; refine wpList_apprun _ rfl _ _ rfl _ _ rfl rfl hrun ?_; clear hrun)
          | (at_builtin; refine wpList_app _ rfl _ _ rfl v1 l s ⟨w1.heap.size, 0, none⟩ rfl rfl (ho1.alloc _) (by omega) (cell_one_new _ _ _) ?_; intro g cap' w3 hr3 hloc)
          | go_in)
        go_ret3
        obtain ⟨z1, z2⟩ := app_end hg1 hb1 hloc
        refine ⟨_, rfl, ownsRow_snap (by simp; omega) (by simpa using hr3), z1, .inr (fun k hk => ?_)⟩
        have hlt := (hr3.lt k hk).2
        obtain rfl : g = k := by simpa [Value.ownBlock] using hk
        exact ⟨z2, hlt⟩
    · have ha : av l s = (k : Int) := by simp [av, hf]
      rw [show putN l s = (k : Int) by simp [putN, hs, hf], show putE l s = 0 by simp [putE, hs, hf], show putL l s = l by simp [putL, hs, hf]]
      go_enter Try.func13, Try.ntmps13
      go_wp2_with (first | (go_at_call 11; refine (name_c s _).mono ?_; rintro e w1 ⟨rfl, rfl⟩) | (go_at_call 15; refine (refFind_c _ _ l s hl).mono ?_; rw [ha]; rintro e w2 ⟨rfl, rfl⟩))
      go_ret3
      exact ⟨_, rfl, hl, Gr.refl _ _, .inl rfl⟩
  · have hr : isName s = false := by simpa using hs
    rw [show putN l s = 0 by simp [putN, hs], show putE l s = 30 by simp [putE, hs], show putL l s = l by simp [putL, hs]]
    go_enter Try.func13, Try.ntmps13
    go_wp2_with (first | (go_at_call 11; refine (name_c s _).mono ?_; rintro e w1 ⟨rfl, rfl⟩))
    go_ret3
    exact ⟨_, rfl, hl, Gr.refl _ _, .inl rfl⟩
end Go.Proofs.Ytipdniiamaaolaa
