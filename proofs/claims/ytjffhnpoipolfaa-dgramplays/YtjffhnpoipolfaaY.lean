/-
  The reference's All, without, put.
-/
import Derived.Test.YtjffhnpoipolfaaX
set_option linter.unusedVariables false
set_option linter.unusedSimpArgs false
namespace Go.Proofs.Ytjffhnpoipolfaa
open Go.RowKit Go.Maps Go.WideMaps
variable {S S' Y : Nat → Prop} {W W1 W' : World}

section
variable {w : World} {ops : Array Oper} {o : Oper} {a : Act} {Q : Exit → Act → World → Prop} {K : Act → World → Prop} {E : Prop}
theorem step_sm (x y : Operand) (f t : Int) (n : Nat) (v v' : Value) (l : List Nat) (sp : Bool) (hgd : o.guard = none) (ho : o.op = .call { callee := .value (.func 14), args := #[x, y], argTypes := #[39, 39] }) (hx : a.eval x = dv f t n v sp) (hy : a.eval y = dv f t n v' sp) (h : Sl w v l) (h' : Sl w v' l)
    (hK : ∀ w', G0 w w' → K (a.put o.dst (.bool true)) w') :
    if Region.wanted o (yielded ops a.tmps) = true then Oper.wp Try.prog o a w K Q else E :=
  step_fn2 x y _ _ hgd ho hx hy (enters_of Try.func14 (by kernel_rfl) rfl) (same_r w f t n v v' l sp h h') (fun e w' hm => by obtain ⟨rfl, h1⟩ := hm; exact hK w' h1)
/-- What an append takes its cells from. -/
def Src (w : World) (s : Value) (m : Nat) (news : List Value) : Prop := (s = nl ∧ m = 0 ∧ news = []) ∨ ∃ ad c, s = .slice (some ad) m c ∧ news.length = m * 5 ∧ ∀ j u, news[j]? = some u → w.cell? (ad.add j) = some u
theorem app_x (w : World) (ty : TypeId) (v s : Value) (p m : Nat) (xs news : List Value) (hv : w.ownsRow 0 39 5 v p xs) (hs : Src w s m news) (h1 : ∀ u ∈ news, u.oneCell' = true) (hl : p + m ≤ 100000) :
    ∃ v' w', (Builtin.append_ #[30, 30] ty #[v, s]).run Try.prog w = .ok v' w' ∧ w'.ownsRow 0 39 5 v' (p + m) (xs ++ news) ∧ Loc v w v' w' := by
  obtain ⟨i0, hi, hz0, hz1, hz2⟩ := info_parts info39
  rcases hs with ⟨rfl, rfl, rfl⟩ | ⟨ad, c, rfl, hn, hc⟩
  · exact ⟨v, w, run_append_owned_none w 0 30 ty 39 i0 5 Try.underlying30 hi v _ _ hv, by simpa using hv, ⟨Gr.refl _ _, fun k e => .inl e⟩⟩
  · obtain ⟨v', w', hr, hown, hgrow, _, hloc⟩ := run_append_own_at (P := Try.prog) w 0 30 ty 39 i0 (dv 0 0 0 nl false) 5 56 Try.underlying30 hi hz0 hz1 hz2 rfl (by decide) v p xs hv ad m c news hn hc h1 (by unfold maxLen; omega) (by omega) (Nat.zero_le _)
    refine ⟨v', w', hr, hown, Gr.of_grown hgrow (fun k e => e), fun k e => ?_⟩
    rcases hloc with e1 | e1
    · exact .inl (e1 ▸ e)
    · rw [e1] at e; cases e; exact .inr (Nat.le_refl _)
theorem step_x (hgd : o.guard = none) (x y : Operand)
    (ho : o.op = .call { callee := .builtin .append, args := #[x, y], argTypes := #[30, 30] }) (p m : Nat) (v s : Value) (xs news : List Value) (hx : a.eval x = v) (hy : a.eval y = s)
    (hv : w.ownsRow 0 39 5 v p xs) (hs : Src w s m news) (h1 : ∀ u ∈ news, u.oneCell' = true) (hl : p + m ≤ 100000)
    (h : ∀ a' cap w', w'.ownsRow 0 39 5 (.slice a' (p + m) cap) (p + m) (xs ++ news) → Loc v w (.slice a' (p + m) cap) w' → K (a.put o.dst (.slice a' (p + m) cap)) w') :
    if Region.wanted o (yielded ops a.tmps) = true then Oper.wp Try.prog o a w K Q else E := by
  have hw : Region.wanted o (yielded ops a.tmps) = true := by simp [Region.wanted, hgd]
  rw [if_pos hw]
  obtain ⟨v', w', hr, h2, h3⟩ := app_x w o.type v s p m xs news hv hs h1 hl
  obtain ⟨a', cap, rfl, _, _⟩ := ownsRow_sv h2
  unfold Oper.wp execOp
  simp only [ho, resolve, invoke, builtin, Sem.run_bind, Sem.run_pure, Result.andThen_ok, List.map_toArray, List.map_cons, List.map_nil, hx, hy, hr]
  exact h a' cap w' h2 h3
end
theorem src_row {v : Value} {l : List Dx} (h : W.ownsRow 0 39 5 v l.length (flatX l)) : Src W v l.length (flatX l) := by
  rcases h.2 with ⟨rfl, e⟩ | ⟨g, cap, cur, rfl, h1, h2, h3, h4, h5, h6⟩
  · have : l = [] := List.length_eq_zero_iff.1 e
    subst this
    exact .inl ⟨rfl, rfl, rfl⟩
  · exact .inr ⟨⟨g, 0, none⟩, cap, rfl, by simp, fun j u hu => h.cells (g := g) rfl j u hu⟩
theorem Src.g0 {s : Value} {m : Nat} {news : List Value} (h : Src W s m news) (g : G0 W W') : Src W' s m news := by
  rcases h with h | ⟨ad, c, e, hn, hc⟩
  · exact .inl h
  · exact .inr ⟨ad, c, e, hn, fun j u hu => cell_g0 (hc j u hu) g⟩
theorem Loc.g0 {v v' : Value} {B : Nat} (h : Loc v W v' W') (hv : ∀ k, v.ownBlock = some k → B ≤ k) (hB : B ≤ W.heap.size) : Gr (fun k => B ≤ k) W W' ∧ ∀ k, v'.ownBlock = some k → B ≤ k :=
  ⟨h.gr.mono (fun i _ e => hv i e), fun k e => (h.at_ k e).elim (hv k) (fun e => by omega)⟩
set_option maxRecDepth 20000 in
set_option maxHeartbeats 1600000 in
theorem all_r (W : World) (v v' : Value) (l l' : List Dx) (h : W.ownsRow 0 39 5 v l.length (flatX l)) (h' : W.ownsRow 0 39 5 v' l'.length (flatX l')) (hb : ∀ d ∈ l, Sl W d.bv d.by') (hb' : ∀ d ∈ l', Sl W d.bv d.by') (hab : l.map abx = l'.map abx) (hl : (l.length : Int) ≤ 1024) :
    Calls Try.prog 17 #[v, v'] W fun e w' => e = .returned (.bool true) ∧ G0 W w' := by
  have hll : l'.length = l.length := by have := congrArg List.length hab; simpa using this.symm
  obtain ⟨a, cap, rfl, c1, c2⟩ := ownsRow_sv h
  obtain ⟨a', cap', rfl, c1', c2'⟩ := ownsRow_sv h'
  have H := Lib.hid h
  have H' := Lib.hid h'
  have Hb := Lib.hid hb
  have Hb' := Lib.hid hb'
  have Hab := Lib.hid hab
  have Hll := Lib.hid hll
  rw [hll]
  clear h h' hb hb' hab hll c1' c2'
  go_enter Try.func17, Try.ntmps17
  go_wp2_with fail
  go_loopw [5] (fun j wr => ∃ i : Nat, i ≤ l.length ∧ j = .int .i64 (i : Int) ∧ G0 W wr) (fun j _ => l.length - (intOf j).toNat)
  case atStart => exact ⟨0, Nat.zero_le _, rfl, Gr.refl _ _⟩
  case round =>
    obtain ⟨i, hi, rfl, hg⟩ := hrel
    by_cases hlt : i < l.length
    · obtain ⟨d, hd⟩ : ∃ d, l[i]? = some d := ⟨_, List.getElem?_eq_getElem hlt⟩
      obtain ⟨d', hd'⟩ : ∃ d, l'[i]? = some d := ⟨_, List.getElem?_eq_getElem (by rw [Hll.out]; exact hlt)⟩
      have hdd : abx d = abx d' := by
        have := congrArg (fun x => x[i]?) Hab.out
        simpa [List.getElem?_map, hd, hd'] using this
      obtain ⟨g, cp, e, _, _, a0, a1, a2, a3, a4⟩ := rowx_at (ownsRow_g0 H.out hg) hd
      obtain ⟨g', cp', e', _, _, b0, b1, b2, b3, b4⟩ := rowx_at (ownsRow_g0 H'.out hg) hd'
      rw [Hll.out] at e'
      cases e
      cases e'
      have s1 := Lib.hid ((Hb.out d (List.mem_of_getElem? hd)).g0 (hg.trans (Gr.drew _ _)))
      have s2 := Lib.hid ((Hb'.out d' (List.mem_of_getElem? hd')).g0 (hg.trans (Gr.drew _ _)))
      obtain ⟨df, dt, dn, da, dc, dby, dsp⟩ := d
      obtain ⟨df', dt', dn', da', dc', dby', dsp'⟩ := d'
      simp only [abx, Prod.mk.injEq] at hdd
      obtain ⟨rfl, rfl, rfl, rfl, rfl⟩ := hdd
      have hI : (i : Int) < (l.length : Int) := by omega
      have Hg := Lib.hid hg
      clear hg hd hd'
      go_wp2_with fail
      go_region_law (first
        | (refine step_sm _ _ df dt dn (.slice da dby.length dc) (.slice da' dby.length dc') dby dsp rfl rfl rfl rfl s1.out s2.out ?_; intro w5 hg5; have Hg5 := Lib.hid hg5; clear hg5))
      all_goals
        go_wp2_with fail
        exact ⟨⟨i + 1, by omega, by go_num, (Hg.out.trans (Gr.drew _ _)).trans Hg5.out⟩, by simp [intOf]; omega⟩
    · have hI : ¬ (i : Int) < (l.length : Int) := by omega
      have Hg := Lib.hid hg
      clear hg
      go_wp2
      go_ret
      exact ⟨rfl, Hg.out⟩
theorem empty_row (w : World) {X : Nat} (h : w.heap[X]? = some (.cells #[] 39 (0, 0))) : w.ownsRow 0 39 5 (.slice (some ⟨X, 0, none⟩) 0 0) 0 [] := ⟨rfl, .inr ⟨X, 0, #[], rfl, Nat.zero_le _, h, Nat.le_refl _, by unfold maxLen; omega, rfl, rfl⟩⟩
set_option maxRecDepth 20000 in
set_option maxHeartbeats 1600000 in
theorem without_r (W : World) (v : Value) (l : List Dx) (i : Nat) (hi : i < l.length) (h : W.ownsRow 0 39 5 v l.length (flatX l)) (hl : (l.length : Int) ≤ 1000000) (hl2 : l.length ≤ 50000) :
    Calls Try.prog 30 #[v, .int .i64 (i : Int)] W fun e w' => ∃ v', e = .returned v' ∧ w'.ownsRow 0 39 5 v' (l.eraseIdx i).length (flatX (l.eraseIdx i)) ∧ (∀ k, v'.ownBlock = some k → W.heap.size ≤ k) ∧ G0 W w' := by
  rcases h.2 with ⟨e, e0⟩ | ⟨g, cap, cur, rfl, h1, h2, h3, h4, h5, h6⟩
  · omega
  obtain ⟨n, hn⟩ : ∃ n, l.length = n + 1 := ⟨l.length - 1, by omega⟩
  have hlen : (l.eraseIdx i).length = i + (n - i) := by rw [List.length_eraseIdx_of_lt hi, hn]; omega
  have hcat : flatX (l.eraseIdx i) = flatX (l.take i) ++ flatX (l.drop (i + 1)) := by rw [← flatX_append, List.eraseIdx_eq_take_drop_succ]
  have hc2 : cap ≤ 9223372036854775807 := by unfold maxLen at h4; omega
  have src1 : Src W (.slice (some ⟨g, 0, none⟩) i cap) i (flatX (l.take i)) := .inr ⟨⟨g, 0, none⟩, cap, rfl, by rw [flatX_length, List.length_take]; congr 1; omega, fun j u hu => h.cells (g := g) rfl j u (by
    rw [← flatX_take] at hu
    rw [List.getElem?_take] at hu
    split at hu
    · exact hu
    · cases hu)⟩
  have src2 : ∀ ad : Addr, (i < n → ad = ⟨g, (i + 1) * 5, none⟩) → ∀ c, Src W (.slice (some ad) (n - i) c) (n - i) (flatX (l.drop (i + 1))) := fun ad had c => .inr ⟨ad, c, rfl, by rw [flatX_length, List.length_drop, hn]; congr 1; omega, fun j u hu => by
    have hjl : j < (n - i) * 5 := by have := (List.getElem?_eq_some_iff.1 hu).1; rw [flatX_length, List.length_drop, hn] at this; omega
    have ha' := had (by omega)
    subst ha'
    rw [Addr.add_lit]
    rw [← flatX_drop, List.getElem?_drop] at hu
    have := h.cells (g := g) rfl _ u hu
    rw [Addr.add_lit, Nat.zero_add] at this
    exact this⟩
  rw [hn] at hl h3 hl2 ⊢
  have i2 : IntKind.i64.wrap ((i : Int) + 1) = (i : Int) + 1 := by rw [IntKind.wrap_i64]; omega
  have i4 : (i : Int) ≤ (n : Int) + 1 := by omega
  have i5 : 0 ≤ (i : Int) + 1 := by omega
  have i6 : (i : Int) ≤ (n : Int) := by omega
  have i8 : (i : Int) ≤ (cap : Int) := by omega
  have i9 : i ≤ cap := by omega
  have Hlen := Lib.hid hlen
  have Hcat := Lib.hid hcat
  have Hs1 := Lib.hid src1
  have Hs2 := Lib.hid src2
  have hin : (i : Int) + ((n - i : Nat) : Int) ≤ 1000000 := by omega
  clear src1 src2 hlen hcat h h2 h5 h6 h4
  by_cases hce : cap = i + 1
  · subst hce
    have i7 : (i : Int) ≤ (i : Int) + 1 := by omega
    obtain rfl : n = i := by omega
    have hdr : Hid (flatX (l.drop (n + 1)) = []) := Lib.hid (by rw [List.drop_of_length_le (by omega)]; rfl)
    go_enter Try.func30, Try.ntmps30
    go_wp2_with fail
    go_region_law (first
      | (refine step_x rfl _ _ rfl 0 n (.slice (some ⟨W.heap.size, 0, none⟩) 0 0) (.slice (some ⟨g, 0, none⟩) n (n + 1)) [] (flatX (l.take n)) rfl rfl (empty_row _ (heap_alloc_new W.drew _)) (Hs1.out.g0 ((Gr.drew _ _).trans (Gr.alloc _ _ _))) flatX_one (by omega) ?_; intro a1 cap1 w1 hr1 hl1; have Hr1 : Hid (w1.ownsRow 0 39 5 (.slice a1 n cap1) n (flatX (l.take n))) := Lib.hid (by simpa using hr1); have L1 := hl1.g0 (B := W.heap.size) (fun k e => by cases e; exact Nat.le_refl _) (by simp); have G1 : Hid (G0 W w1) := Lib.hid (((Gr.drew W _).trans (Gr.alloc _ _ _)).trans' L1.1 (fun i hi e => by omega)); have O1 : Hid (∀ k, (Value.slice a1 n cap1).ownBlock = some k → W.heap.size ≤ k) := Lib.hid (fun k e => L1.2 k (by simpa using e)); clear hr1 hl1 L1)
      | (refine step_x rfl _ _ rfl n 0 (.slice a1 n cap1) (.slice (some ⟨g, 0, none⟩) 0 0) (flatX (l.take n)) [] rfl rfl Hr1.out (.inr ⟨⟨g, 0, none⟩, 0, rfl, rfl, by simp⟩) (by simp) (by omega) ?_; intro a2 cap2 w2 hr2 hl2; have Hr2 := Lib.hid hr2; have L2 := hl2.g0 O1.out G1.out.size; have G2 : Hid (G0 W w2) := Lib.hid (G1.out.trans' L2.1 (fun i hi e => by omega)); have O2 := Lib.hid L2.2; clear hr2 hl2 L2)
      | fail)
    all_goals
      go_wp2
      go_ret
      exact ⟨.slice a2 n cap2, rfl, by rw [Hlen.out, Hcat.out, hdr.out]; simpa using Hr2.out, by simpa using O2.out, G2.out⟩
  · have i7 : ¬ cap = i := by omega
    go_enter Try.func30, Try.ntmps30
    go_wp2_with fail
    go_region_law (first
      | (refine step_x rfl _ _ rfl 0 i (.slice (some ⟨W.heap.size, 0, none⟩) 0 0) (.slice (some ⟨g, 0, none⟩) i cap) [] (flatX (l.take i)) rfl rfl (empty_row _ (heap_alloc_new W.drew _)) (Hs1.out.g0 ((Gr.drew _ _).trans (Gr.alloc _ _ _))) flatX_one (by omega) ?_; intro a1 cap1 w1 hr1 hl1; have Hr1 : Hid (w1.ownsRow 0 39 5 (.slice a1 i cap1) i (flatX (l.take i))) := Lib.hid (by simpa using hr1); have L1 := hl1.g0 (B := W.heap.size) (fun k e => by cases e; exact Nat.le_refl _) (by simp); have G1 : Hid (G0 W w1) := Lib.hid (((Gr.drew W _).trans (Gr.alloc _ _ _)).trans' L1.1 (fun i hi e => by omega)); have O1 : Hid (∀ k, (Value.slice a1 i cap1).ownBlock = some k → W.heap.size ≤ k) := Lib.hid (fun k e => L1.2 k (by simpa using e)); clear hr1 hl1 L1)
      | (refine step_x rfl _ _ rfl i (n - i) (.slice a1 i cap1) (.slice (some ⟨g, (i + 1) * 5, none⟩) (n - i) (cap - (i + 1))) (flatX (l.take i)) (flatX (l.drop (i + 1))) rfl rfl Hr1.out ((Hs2.out ⟨g, (i + 1) * 5, none⟩ (fun _ => rfl) (cap - (i + 1))).g0 G1.out) flatX_one (by omega) ?_; intro a2 cap2 w2 hr2 hl2; have Hr2 := Lib.hid hr2; have L2 := hl2.g0 O1.out G1.out.size; have G2 : Hid (G0 W w2) := Lib.hid (G1.out.trans' L2.1 (fun i hi e => by omega)); have O2 := Lib.hid L2.2; clear hr2 hl2 L2)
      | fail)
    all_goals
      go_wp2
      go_ret
      exact ⟨_, rfl, by rw [Hlen.out, Hcat.out]; exact Hr2.out, O2.out, G2.out⟩
end Go.Proofs.Ytjffhnpoipolfaa
