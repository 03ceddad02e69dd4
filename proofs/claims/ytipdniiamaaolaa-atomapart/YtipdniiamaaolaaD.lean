/-
  What the calls New, add, Put, Find, Name and Len of a table answer, and what they leave as it was.
-/
import Derived.Test.YtipdniiamaaolaaC
namespace Go.Proofs.Ytipdniiamaaolaa
open Go.RowKit Go.Maps Go.WideMaps

theorem law : Keyed Try.prog 9 := string_keyed Try.underlying9
theorem zero3 (w : World) : (zeroValue 3).run Try.prog w = .ok (.int .i64 0) w := by kernel_rfl
theorem eqMap (w : World) (r : Option Nat) : (binOp .eql 52 (.map r) (.map none)).run Try.prog w = .ok (.bool r.isNone) w := run_eql_map_nil w 52 9 3 r Try.underlying52

abbrev pt (b : Nat) : Value := .pointer (some ⟨b, 0, none⟩)

theorem new_c (w : World) : Calls Try.prog 12 #[] w fun e w' => e = .returned (pt w.heap.size) ∧ Tab w' w.heap.size none (.slice none 0 0) [] ∧ Gr (fun _ => False) w w' := by
  go_enter Try.func12, Try.ntmps12
  go_wp2
  go_ret
  exact ⟨rfl, ⟨heap_alloc_new w _, World.ownsRow_nil _ _ _ _, .inl ⟨rfl, rfl⟩, good_nil⟩, Gr.alloc w _ _⟩

theorem Tab.sv {W : World} {b : Nat} {m : Option Nat} {sv : Value} {l : List ByteArray} (h : Tab W b m sv l) : ∃ a cap, sv = .slice a l.length cap := by
  rcases h.row.2 with ⟨rfl, e⟩ | ⟨g, cap, cur, rfl, _⟩
  · rw [e]; exact ⟨_, _, rfl⟩
  · exact ⟨_, _, rfl⟩

/-- What add does with a table's names: the new one stands behind the others. -/
def Added (W W' : World) (b : Nat) (m : Option Nat) (sv : Value) (l : List ByteArray) : Prop :=
  ∃ m' sv', Tab W' b m' sv' l ∧ Gr (Fp b m sv) W W' ∧ (∀ k, Fp b m' sv' k → Fp b m sv k ∨ W.heap.size ≤ k) ∧ ∀ k, sv.ownBlock = some k → sv'.ownBlock = some k ∨ W'.heap[k]? = W.heap[k]?

theorem after_app {w2 w3 : World} {o : Obj} {sv : Value} {g : Nat} (hloc : (sv.ownBlock = some g ∧ (w2.alloc o).grownBy w3 (some g)) ∨ (g = (w2.alloc o).heap.size ∧ (w2.alloc o).grownBy w3 none)) :
    ∀ k, k < w2.heap.size → sv.ownBlock ≠ some k → w3.heap[k]? = w2.heap[k]? := by
  intro k hk hn
  rcases hloc with ⟨e, hg⟩ | ⟨e, hg⟩
  · exact (hg.block k (by simp; omega) (fun e2 => hn (by rw [e, e2]))).trans (heap_alloc_old w2 o hk)
  · exact (hg.block k (by simp; omega) (by simp)).trans (heap_alloc_old w2 o hk)

theorem add_done {W w1 w2 w3 : World} {b mb g cap' : Nat} {sv : Value} {l : List ByteArray} {s : ByteArray} {o : Obj} {d : DataW Unit} (h : Tab W b (some mb) sv l) (hs : isName s = true) (hn : s ∉ l) (hl : l.length < 4096)
    (hb1 : Below W.heap.size W w1) (hg2 : w1.grownBy w2 (some mb)) (hd : MapOk d l) (hdm : IsMap d)
    (ho2 : w2.ownsMap Try.prog 9 (plainElem (H := Unit) Try.prog 3) mb (l.length + 1) (d.put (kOf s) (.lit (.int .i64 (l.length : Int)))))
    (hr3 : w3.ownsRow 0 9 1 (.slice (some ⟨g, 0, none⟩) (l.length + 1) cap') (l.length + 1) ((l ++ [s]).map Value.string))
    (hloc : (sv.ownBlock = some g ∧ (w2.alloc o).grownBy w3 (some g)) ∨ (g = (w2.alloc o).heap.size ∧ (w2.alloc o).grownBy w3 none)) :
    Added W (w3.setCell ⟨b, 1, none⟩ (.slice (some ⟨g, 0, none⟩) (l.length + 1) cap')) b (some mb) sv (l ++ [s]) := by
  obtain ⟨n1, n2, n3⟩ := h.ne
  have hbb : b < W.heap.size := h.lt b (.inl rfl)
  have hmb : mb < W.heap.size := h.lt mb (.inr (.inl rfl))
  have hs1 := hb1.size
  have hs2 := hg2.size
  have hk3 := after_app hloc
  have hb3 : w3.heap[b]? = some (.cells #[.map (some mb), sv] 54 (0, 0)) :=
    (hk3 b (by omega) n2).trans ((hg2.block b (by omega) (fun e => n1 e.symm)).trans ((hb1.block b hbb).trans h.blk))
  have hgb : g ≠ b := by
    rcases hloc with ⟨e, _⟩ | ⟨e, _⟩
    · intro e2; exact n2 (e2 ▸ e)
    · simp at e; omega
  have hmg : mb ≠ b := fun e => n1 (by rw [e])
  have hg3 : Gr (fun k => sv.ownBlock = some k) w2 w3 := by
    refine (Gr.alloc w2 o _).trans ?_
    rcases hloc with ⟨e, hg⟩ | ⟨e, hg⟩
    · exact Gr.of_grown hg (fun k e2 => by cases e2; exact e)
    · exact Gr.of_grown hg (fun k e2 => by cases e2)
  refine ⟨some mb, .slice (some ⟨g, 0, none⟩) (l.length + 1) cap', ⟨heap_setCell_same w3 b 1 _ 54 _ hb3, ?_, .inr ⟨mb, _, rfl, ?_, hd.snoc hdm hn⟩, h.good.snoc hn hs hl⟩, ?_, ?_, ?_⟩
  · have := ownsRow_of_block (W' := w3.setCell ⟨b, 1, none⟩ (.slice (some ⟨g, 0, none⟩) (l.length + 1) cap')) hr3 (fun k e => by
      obtain rfl : g = k := by simpa [Value.ownBlock] using e
      exact heap_setCell_other w3 _ _ _ hgb)
    simpa using this
  · have := ownsMap_of_block (W' := w3.setCell ⟨b, 1, none⟩ (.slice (some ⟨g, 0, none⟩) (l.length + 1) cap')) ho2 ((heap_setCell_other w3 _ _ _ hmg).trans (hk3 mb (by omega) (n3 mb rfl)))
    simpa using this
  · refine (Gr.of_below hb1 _).trans ((Gr.of_grown hg2 (fun k e => .inr (.inl e))).trans ((hg3.mono (fun i _ e => .inr (.inr e))).trans (Gr.set _ _ _ (.inl rfl))))
  · rintro k (rfl | e | e)
    · exact .inl (.inl rfl)
    · exact .inl (.inr (.inl e))
    · obtain rfl : g = k := by simpa [Value.ownBlock] using e
      rcases hloc with ⟨e, _⟩ | ⟨e, _⟩
      · exact .inl (.inr (.inr e))
      · right; simp at e; omega
  · intro k hk
    have hkb : k ≠ b := fun e => n2 (by rw [hk, e])
    have hkW := h.lt k (.inr (.inr hk))
    rcases hloc with ⟨e, _⟩ | ⟨_, hg⟩
    · left; rw [hk] at e; cases e; rfl
    · right
      refine (heap_setCell_other w3 _ _ _ hkb).trans ((hg.block k (by simp; omega) (by simp)).trans ((heap_alloc_old w2 o (by omega)).trans ((hg2.block k (by omega) (fun e => ?_)).trans (hb1.block k hkW))))
      exact n3 mb rfl (by rw [hk]; exact e)

set_option maxHeartbeats 1600000 in
theorem add_some (W : World) (b mb : Nat) (sv : Value) (l : List ByteArray) (s : ByteArray) (h : Tab W b (some mb) sv l) (hs : isName s = true) (hn : s ∉ l) (hl : l.length < 4096) :
    Calls Try.prog 25 #[pt b, .string s] W fun e W' => e = .returned (.int .i64 (l.length : Int)) ∧ Added W W' b (some mb) sv (l ++ [s]) := by
  obtain ⟨hs1, hs2⟩ := isName_size hs
  obtain ⟨c0, c1, f0, f1⟩ := two h.blk
  have hq := eqMap
  obtain ⟨d, ho, hd⟩ : ∃ d, W.ownsMap Try.prog 9 (plainElem (H := Unit) Try.prog 3) mb l.length d ∧ MapOk d l := by
    rcases h.map with ⟨e, _⟩ | ⟨mb', d, e, ho, hd⟩
    · cases e
    · cases e; exact ⟨d, ho, hd⟩
  obtain ⟨a, cap, rfl⟩ := h.sv
  obtain ⟨n1, n2, n3⟩ := h.ne
  have hmb : mb < W.heap.size := ho.lt
  have hbb : b < W.heap.size := h.lt b (.inl rfl)
  have hll : (l.length : Int) ≤ 9223372036854775807 := by omega
  go_enter Try.func25, Try.ntmps25
  go_wp2_with (first
    | (go_at_call 27; refine (clone_c s _ hs1 hs2).mono ?_; rintro e w1 ⟨rfl, hb1⟩; have h1 : Tab w1 b (some mb) (.slice a l.length cap) l := h.gr (Gr.of_below hb1 (fun _ => False)) (fun _ _ e => e); have ho1 := ownsMap_of_block ho (hb1.block mb hmb); obtain ⟨c01, c11, f01, f11⟩ := two h1.blk)
    | (at_mapUpdate; refine wpList_mapUpdate_own _ rfl _ _ _ 52 rfl 9 3 law Try.underlying52 _ mb l.length _ rfl ho1 (by unfold maxLen; omega) _ _ _ rfl rfl (keyOf_string_mk Try.underlying9 (by unfold maxLen; omega)) _ [] (plainElem_int Try.underlying3 (WalkArith.wf_i64 (by omega))) ?_; intro w2 ho2 hg2; have hr2 : w2.ownsRow 0 9 1 (.slice a l.length cap) l.length (l.map Value.string) := ownsRow_of_block h1.row (fun k e => hg2.block k (h1.lt k (.inr (.inr e))) (fun e2 => n3 mb rfl (by rw [e, e2]))); have hb2 : w2.heap[b]? = some (.cells #[.map (some mb), .slice a l.length cap] 54 (0, 0)) := (hg2.block b (h1.lt b (.inl rfl)) (fun e => n1 e.symm)).trans h1.blk; obtain ⟨c02, c12, f02, f12⟩ := two hb2)
    | (at_builtin; refine wpList_app _ rfl _ _ rfl (.slice a l.length cap) l s ⟨w2.heap.size, 0, none⟩ rfl rfl (hr2.alloc _) (by omega) (cell_one_new _ _ _) ?_; intro g cap' w3 hr3 hloc; have hb3 := (after_app hloc b (Nat.lt_of_lt_of_le (h1.lt b (.inl rfl)) hg2.size) n2).trans hb2; obtain ⟨c03, c13, f03, f13⟩ := two hb3)
    | go_in)
  go_ret
  exact ⟨rfl, add_done h hs hn hl hb1 hg2 hd ho.isMap ho2 hr3 hloc⟩

theorem made_tab {W : World} {b : Nat} {sv : Value} (h : Tab W b none sv []) : Tab ((W.setCell ⟨b, 0, none⟩ (.map (some W.heap.size))).alloc (.map #[] 0)) b (some W.heap.size) sv [] := by
  obtain ⟨n1, n2, n3⟩ := h.ne
  have hbb : b < W.heap.size := h.lt b (.inl rfl)
  refine ⟨(heap_alloc_old _ _ (by simpa using hbb)).trans (heap_setCell_same W b 0 _ 54 _ h.blk), ?_, .inr ⟨_, .map [], rfl, ?_, mapOk_nil⟩, h.good⟩
  · refine ownsRow_of_block h.row (fun k e => (heap_alloc_old _ _ (by simpa using h.lt k (.inr (.inr e)))).trans (heap_setCell_other W _ _ _ (fun e2 => n2 (by rw [e, e2]))))
  · have := World.ownsMap_made (H := Unit) (W.setCell ⟨b, 0, none⟩ (.map (some W.heap.size))) Try.prog 9 (plainElem Try.prog 3)
    rwa [World.size_setCell] at this
theorem made_added {W W' : World} {b : Nat} {sv : Value} {l : List ByteArray} (h : Tab W b none sv []) (k : Added ((W.setCell ⟨b, 0, none⟩ (.map (some W.heap.size))).alloc (.map #[] 0)) W' b (some W.heap.size) sv l) : Added W W' b none sv l := by
  obtain ⟨m', sv', ht, hg, hf, hk⟩ := k
  refine ⟨m', sv', ht, ?_, ?_, ?_⟩
  · refine ((Gr.set W ⟨b, 0, none⟩ _ (.inl rfl)).trans (Gr.alloc _ _ _)).trans' hg (fun i hi => ?_)
    rintro (e | e | e)
    · exact .inl e
    · cases e; omega
    · exact .inr (.inr e)
  · intro i hi
    rcases hf i hi with (e | e | e) | e
    · exact .inl (.inl e)
    · cases e; exact .inr (Nat.le_refl _)
    · exact .inl (.inr (.inr e))
    · right; simp at e; omega
  · intro i hi
    rcases hk i hi with e | e
    · exact .inl e
    · exact .inr (e.trans ((heap_alloc_old _ _ (by simpa using h.lt i (.inr (.inr hi)))).trans (heap_setCell_other W _ _ _ (fun e2 => h.ne.2.1 (by rw [hi, e2])))))

set_option maxHeartbeats 1600000 in
theorem add_none (W : World) (b : Nat) (sv : Value) (s : ByteArray) (h : Tab W b none sv []) (hs : isName s = true) :
    Calls Try.prog 25 #[pt b, .string s] W fun e W' => e = .returned (.int .i64 0) ∧ Added W W' b none sv [s] := by
  obtain ⟨hs1, hs2⟩ := isName_size hs
  obtain ⟨c0, c1, f0, f1⟩ := two h.blk
  have hq := eqMap
  have hmm := @run_makeMap Try.prog
  obtain ⟨a, cap, rfl⟩ := h.sv
  have hbb : b < W.heap.size := h.lt b (.inl rfl)
  obtain ⟨W0, hW0⟩ : ∃ W0, (W.setCell ⟨b, 0, none⟩ (.map (some W.heap.size))).alloc (.map #[] 0) = W0 := ⟨_, rfl⟩
  have h0 := made_tab h
  have hfin := @made_added W
  rw [hW0] at h0
  obtain ⟨n1, n2, n3⟩ := h0.ne
  have hmb : W.heap.size < W0.heap.size := by rw [← hW0]; simp
  have ho0 : W0.ownsMap Try.prog 9 (plainElem (H := Unit) Try.prog 3) W.heap.size 0 (.map []) := by
    rw [← hW0]
    have := World.ownsMap_made (H := Unit) (W.setCell ⟨b, 0, none⟩ (.map (some W.heap.size))) Try.prog 9 (plainElem Try.prog 3)
    rwa [World.size_setCell] at this
  go_enter Try.func25, Try.ntmps25
  go_wp2_with (first
    | (go_at_call 27; (try rw [hW0]); refine (clone_c s _ hs1 hs2).mono ?_; rintro e w1 ⟨rfl, hb1⟩; have h1 : Tab w1 b (some W.heap.size) (.slice a 0 cap) [] := h0.gr (Gr.of_below hb1 (fun _ => False)) (fun _ _ e => e); have ho1 := ownsMap_of_block ho0 (hb1.block _ hmb); obtain ⟨c01, c11, f01, f11⟩ := two h1.blk)
    | (at_mapUpdate; refine wpList_mapUpdate_own _ rfl _ _ _ 52 rfl 9 3 law Try.underlying52 _ W.heap.size 0 _ rfl ho1 (by unfold maxLen; omega) _ _ _ rfl rfl (keyOf_string_mk Try.underlying9 (by unfold maxLen; omega)) _ [] (plainElem_int Try.underlying3 (a := 0) (by decide)) ?_; intro w2 ho2 hg2; have hr2 : w2.ownsRow 0 9 1 (.slice a 0 cap) ([] : List ByteArray).length (([] : List ByteArray).map Value.string) := ownsRow_of_block h1.row (fun k e => hg2.block k (h1.lt k (.inr (.inr e))) (fun e2 => n3 _ rfl (e.trans e2))); have hb2 : w2.heap[b]? = some (.cells #[.map (some W.heap.size), .slice a 0 cap] 54 (0, 0)) := (hg2.block b (h1.lt b (.inl rfl)) (fun e => n1 e.symm)).trans h1.blk; obtain ⟨c02, c12, f02, f12⟩ := two hb2)
    | (at_builtin; refine wpList_app _ rfl _ _ rfl (.slice a 0 cap) [] s ⟨w2.heap.size, 0, none⟩ rfl rfl (hr2.alloc _) (by simp) (cell_one_new _ _ _) ?_; intro g cap' w3 hr3 hloc; have hb3 := (after_app hloc b (Nat.lt_of_lt_of_le (h1.lt b (.inl rfl)) hg2.size) n2).trans hb2; obtain ⟨c03, c13, f03, f13⟩ := two hb3)
    | go_in)
  go_ret
  refine ⟨rfl, hfin h ?_⟩
  rw [hW0]
  exact add_done h0 hs (by simp) (by simp) hb1 hg2 mapOk_nil isMap_empty ho2 hr3 hloc

/-- add at any table. -/
theorem add_c (W : World) (b : Nat) (m : Option Nat) (sv : Value) (l : List ByteArray) (s : ByteArray) (h : Tab W b m sv l) (hs : isName s = true) (hn : s ∉ l) (hl : l.length < 4096) :
    Calls Try.prog 25 #[pt b, .string s] W fun e W' => e = .returned (.int .i64 (l.length : Int)) ∧ Added W W' b m sv (l ++ [s]) := by
  rcases h.map with ⟨rfl, rfl⟩ | ⟨mb, d, rfl, _, _⟩
  · exact add_none W b sv s h hs
  · exact add_some W b mb sv l s h hs hn hl
end Go.Proofs.Ytipdniiamaaolaa
