/-
  The reference's Do: a datagram goes twice.
-/
import Derived.Test.YtjffhnpoipolfaaZC
set_option linter.unusedVariables false
set_option linter.unusedSimpArgs false
namespace Go.Proofs.Ytjffhnpoipolfaa
open Go.RowKit Go.Maps Go.WideMaps
variable {S S' Y : Nat → Prop} {W W1 W' : World}

/-- What becomes of the reference's way when one is put. -/
def PutX (l l' : List Dx) (lost lost' : Nat) (x : Int × Int × Nat × List Nat × Bool) : Prop := (l.length < 1024 ∧ lost' = lost ∧ ∃ d, abx d = x ∧ l' = l ++ [d]) ∨ (l.length = 1024 ∧ lost' = lost + 1 ∧ l' = l)
theorem put_r (W : World) (nodes : Int) (sent : Nat) (wv : Value) (l : List Dx) (ba : Option Addr) (bl bc : Nat) (lost : Nat) (f t : Int) (n : Nat) (bv : Value) (by' : List Nat) (sp : Bool) (h : Rg Y W wv l) (hl : l.length ≤ 1024) (hs : Sl W bv by') (hb : by'.length ≤ 1212) (hY : ∀ k, Y k → k < W.heap.size) (hlo : (lost : Int) ≤ 1000000000) :
    Calls Try.prog 29 #[rv nodes sent wv (.slice ba bl bc) lost, dv f t n bv sp] W fun e w' => ∃ wa wl wc l' lost', e = .returned (rv nodes sent (.slice wa wl wc) (.slice ba bl bc) lost') ∧ Rg (fun k => Y k ∨ W.heap.size ≤ k) w' (.slice wa wl wc) l' ∧ PutX l l' lost lost' (f, t, n, by', sp) ∧ G0 W w' := by
  by_cases hc : l.length = 1024
  · obtain ⟨wa, wc, rfl, _, _⟩ := ownsRow_sv h.row
    obtain ⟨a, cap, rfl⟩ : ∃ a cap, bv = .slice a by'.length cap := by
      rcases hs.at' with ⟨rfl, rfl⟩ | ⟨a, cap, rfl, h1, h2, h3⟩
      · exact ⟨_, _, rfl⟩
      · exact ⟨_, _, rfl⟩
    have := put_full W nodes sent wa wc ba bl bc lost f t n a by'.length cap sp hlo
    rw [hc]
    refine this.mono ?_
    rintro e w' ⟨rfl, hg⟩
    refine ⟨wa, 1024, wc, l, lost + 1, rfl, ?_, .inr ⟨hc, rfl, rfl⟩, hg⟩
    have := (h.keep (W' := w') (fun k hk => hg.block k (hY k hk) (fun e => e))).wide (Y' := fun k => Y k ∨ W.heap.size ≤ k) (fun k hk => .inl hk)
    rw [hc] at this
    exact this
  · refine (put_room W nodes sent wv l ba bl bc lost f t n bv by' sp h (by omega) hs hb hY).mono ?_
    rintro e w' ⟨wv', d, rfl, hR, hab, hg⟩
    obtain ⟨wa, wc, rfl, _, _⟩ := ownsRow_sv hR.row
    exact ⟨wa, _, wc, l ++ [d], lost, rfl, hR, .inl ⟨by omega, rfl, d, hab, rfl⟩, hg⟩
theorem keepA {w : World} {k b : Nat} (h : k ≠ b) (v0 v1 v2 v3 v4 : Value) : (((((w.setCell ⟨b, 0, none⟩ v0).setCell ⟨b, 1, none⟩ v1).setCell ⟨b, 2, none⟩ v2).setCell ⟨b, 3, none⟩ v3).setCell ⟨b, 4, none⟩ v4).heap[k]? = w.heap[k]? := five_old w v0 v1 v2 v3 v4 h
set_option maxRecDepth 20000 in
set_option maxHeartbeats 1600000 in
theorem do3_ok (W : World) (nodes : Int) (sent : Nat) (wv : Value) (l : List Dx) (ba : Option Addr) (bl bc : Nat) (lost : Nat) (f t : Int) (i : Nat) (a m : Int) (oa : Option Addr) (ol oc : Nat) (h : Rg Y W wv l) (hY : ∀ k, Y k → k < W.heap.size) (hi : i < l.length) (hl : (l.length : Int) ≤ 1024) (hlo : (lost : Int) ≤ 1000000000) (d : Dx) (hd : l[i]? = some d) :
    Calls Try.prog 13 #[rv nodes sent wv (.slice ba bl bc) lost, ov 3 f t (i : Int) a m (.slice oa ol oc)] W (EndD W (fun w' nv dd ok c => ∃ wv' l' lost', nv = rv nodes sent wv' (.slice ba bl bc) lost' ∧ dd = zdv ∧ ok = false ∧ c = 0 ∧ Rg (fun k => Y k ∨ W.heap.size ≤ k) w' wv' l' ∧ PutX l l' lost lost' (abx d))) := by
  obtain ⟨g, cap, rfl, hc1, hc2, y0, y1, y2, y3, y4⟩ := rowx_at h.row hd
  have HB := Lib.hid (b5_new W nodes sent (.slice (some ⟨g, 0, none⟩) l.length cap) (.slice ba bl bc) lost 3 f t (i : Int) a m (.slice oa ol oc))
  have hgl : g < W.heap.size := hY g (h.own g rfl)
  have hgl1 : g < W.heap.size + 1 := by omega
  have hgl2 : g < W.heap.size + 1 + 1 := by omega
  have hgl3 : g < W.heap.size + 1 + 1 + 1 := by omega
  have hgl4 : g < W.heap.size + 1 + 1 + 1 + 1 := by omega
  have hiI : (i : Int) < (l.length : Int) := by omega
  have HY := Lib.hid hY
  have hdm := h.byt d (List.mem_of_getElem? hd)
  have hP : Hid (∀ w, G0 W w → Calls Try.prog 29 #[rv nodes sent (.slice (some ⟨g, 0, none⟩) l.length cap) (.slice ba bl bc) lost, dv d.f d.t d.n d.bv d.sp] w fun e w' => ∃ wa wl wc l' lost', e = .returned (rv nodes sent (.slice wa wl wc) (.slice ba bl bc) lost') ∧ Rg (fun k => Y k ∨ w.heap.size ≤ k) w' (.slice wa wl wc) l' ∧ PutX l l' lost lost' (abx d) ∧ G0 w w') := Lib.hid (fun w gw => put_r w nodes sent _ l ba bl bc lost d.f d.t d.n d.bv d.by' d.sp (h.keep (fun k hk => gw.block k (hY k hk) (fun e => e))) (by omega) (hdm.1.g0 gw) hdm.2.2 (fun k hk => Nat.lt_of_lt_of_le (hY k hk) gw.size) hlo)
  clear h hY hd hdm hi
  go_enter Try.func13, Try.ntmps13
  go_wp2_with fail
  generalize hw0 : World.alloc (World.alloc _ _) _ = w0
  have X0 : B5 W w0 nodes sent (.slice (some ⟨g, 0, none⟩) l.length cap) (.slice ba bl bc) lost 3 f t (i : Int) a m (.slice oa ol oc) := by rw [← hw0]; exact HB.out.g0 (Gr.alloc _ _ _)
  clear hw0
  refine (hP.out w0 X0.xg).mono ?_
  rintro e w1 ⟨wa, wl, wc, l', lost', rfl, hR1, hp1, hg1⟩
  have hs0 : W.heap.size + 1 + 1 + 1 + 1 < w0.heap.size := lt_of_blk X0.xe
  have X1 := Lib.hid (X0.g0 hg1)
  have R1 := Lib.hid hR1
  have P1 := Lib.hid hp1
  obtain ⟨a0, a1', a2, a3, a4, fa0, fa1, fa2, fa3, fa4⟩ := five X1.out.xa
  obtain ⟨b0, b1, b2, b3, b4, b5, b6⟩ := seven X1.out.xb
  obtain ⟨c0, c1, c2, c3, c4, c5, c6, c7, c8, c9⟩ := five X1.out.xc
  obtain ⟨d0, d1, d2, d3, d4, d5, d6, d7, d8, d9⟩ := five X1.out.xd
  obtain ⟨e0, e1, e2, e3, e4, _⟩ := five X1.out.xe
  clear hR1 hp1 hg1 X0
  go_wp2_with fail
  go_region
  all_goals
    go_wp2
    refine bodyPost_ret (v := .tuple #[rv nodes sent (.slice wa wl wc) (.slice ba bl bc) lost', zdv, .bool false, .int .i64 0]) (by simp [results, Try.results13, go_sem, c0, c1, c2, c3, c4, d0, d1, d2, d3, d4]) rfl ?_
    have gA := X1.out.xg.cell5 W.heap.size (.int .i64 nodes) (.int .u64 (sent : Int)) (.slice wa wl wc) (.slice ba bl bc) (.int .i64 (lost' : Int)) (.inr (Nat.le_refl _))
    have key : ∀ w', (∀ k, (Y k ∨ w0.heap.size ≤ k) → w'.heap[k]? = w1.heap[k]?) → Rg (fun k => Y k ∨ W.heap.size ≤ k) w' (.slice wa wl wc) l' := fun w' hk => (R1.out.keep hk).wide (fun k e => e.imp id (fun e => by omega))
    refine ⟨_, _, _, _, rfl, ⟨_, l', lost', rfl, rfl, rfl, rfl, key _ ?_, P1.out⟩, ?_⟩
    · intro k hk
      have hk' : k < W.heap.size ∨ w0.heap.size ≤ k := hk.imp (HY.out k) id
      exact (keep10 (by omega) (by omega) _ _ _ _ _ _ _ _ _ _).trans (keepA (by omega) _ _ _ _ _)
    · exact (fin10 gA _ _ _ _ _ _ _ _ _ _).trans (Gr.drew _ _)
end Go.Proofs.Ytjffhnpoipolfaa
