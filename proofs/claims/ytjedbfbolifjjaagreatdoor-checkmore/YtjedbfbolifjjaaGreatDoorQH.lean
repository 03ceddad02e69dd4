/-
  The walk of CheckMore.
-/
import Derived.Test.YtjedbfbolifjjaaGreatDoorQC
import Derived.Test.YtjedbfbolifjjaaGreatDoorQE
import Derived.Laws.Concat
set_option linter.unusedVariables false
set_option linter.unusedSimpArgs false
namespace Go.Proofs.YtjedbfbolifjjaaGreatDoor
open Go.RowKit Go.Maps
variable {W W' : World}
theorem conv_one (w : World) (j : Nat) : (convert 22 9 (.slice (some ⟨w.heap.size, 0, none⟩) 1 1)).run Tryz.prog (w.alloc (.cells #[.int .u8 (97 + (j : Int))] 5)) = .ok (.string ⟨#[UInt8.ofNat (97 + j)]⟩) (w.alloc (.cells #[.int .u8 (97 + (j : Int))] 5)) := by
 have h := conv_sb (Ob.lit w.heap.size w [97 + (j : Int)] (by simp) (Nat.le_refl _) #[.int .u8 (97 + (j : Int))] rfl 1 rfl).sb
 rw [h]
 rfl
theorem conv_two (w : World) (o : Obj) (j : Nat) (cb : ByteArray) (hcb : cb = ⟨#[UInt8.ofNat (97 + j)]⟩) : (convert 22 9 (.slice (some ⟨w.heap.size + 1, 0, none⟩) 1 1)).run Tryz.prog ((w.alloc o).alloc (.cells #[.int .u8 (97 + (j : Int))] 5)) = .ok (.string cb) ((w.alloc o).alloc (.cells #[.int .u8 (97 + (j : Int))] 5)) := by
 have h := conv_one (w.alloc o) j
 have hs : (w.alloc o).heap.size = w.heap.size + 1 := by simp
 rw [hs] at h
 rw [hcb]
 exact h
theorem zn_eq {cb : ByteArray} {j : Nat} (h : cb = ⟨#[UInt8.ofNat (97 + j)]⟩) : (⟨#[122, 122, 95]⟩ : ByteArray) ++ cb = zzN j := by
 subst h
 exact ByteArray.ext (by simp [ByteArray.data_append])
theorem u_eq {s zn : ByteArray} {j : Nat} (h : zn = zzN j) : s ++ ⟨#[32]⟩ ++ zn ++ ⟨#[40, 65, 44, 32, 66, 44, 32, 67, 41, 32, 45, 62, 32, 65, 46]⟩ = s ++ ⟨#[32]⟩ ++ bT j := by
 subst h
 rw [ByteArray.append_assoc (b := zzN j)]
 congr 1
theorem lit_cells {w : World} {lb : Nat} {x0 x1 x2 x3 x4 : Value} (h : w.heap[lb]? = some (.cells #[x0, x1, x2, x3, x4] 25 (0, 0))) : ∀ j u, [x0, x1, x2, x3, x4][j]? = some u → w.cell? ((⟨lb, 0, none⟩ : Addr).add j) = some u := fun j u hj => by
 have hadd : (⟨lb, 0, none⟩ : Addr).add j = ⟨lb, j, none⟩ := by unfold Addr.add; split <;> simp_all
 rw [hadd]
 exact cell_of_row w lb j _ 25 (0, 0) h ▸ (by simpa using hj)
/-- What the region reads. -/
abbrev SM (tb g i : Nat) (x : Value) (tk : Int) (tt : ByteArray) (tn : Int) (u v : Value) (w : World) : Prop := w.cell? ⟨tb, 4, none⟩ = some x ∧
 w.cell? ⟨g, i * 5, none⟩ = some (.int .i64 tk) ∧ w.cell? ⟨g, i * 5 + 1, none⟩ = some (.string tt) ∧ w.cell? ⟨g, i * 5 + 2, none⟩ = some (.int .i64 tn) ∧ w.cell? ⟨g, i * 5 + 3, none⟩ = some u ∧ w.cell? ⟨g, i * 5 + 4, none⟩ = some v
theorem SM.gr {S : Nat → Prop} {tb g i : Nat} {x : Value} {tk : Int} {tt : ByteArray} {tn : Int} {u v : Value} (h : SM tb g i x tk tt tn u v W) (gr : Gr S W W') (h1 : ¬ S tb) (h3 : ¬ S g) : SM tb g i x tk tt tn u v W' := by
 obtain ⟨a1, a3, a4, a5, a6, a7⟩ := h
 exact ⟨cell_gr a1 gr h1, cell_gr a3 gr h3, cell_gr a4 gr h3, cell_gr a5 gr h3, cell_gr a6 gr h3, cell_gr a7 gr h3⟩
theorem prog_row2 {w4 : World} {A : Nat → Prop} {l : List Tr} {bv : Value} {la : Option Addr} {lc i : Nat} (h : Rep A w4 (.mk 18 e0 0 [] l) (trv 18 e0 0 bv (.slice la l.length lc))) (hA : ∀ z, A z → z < w4.heap.size) (hi : i < l.length) :
 ∃ (g : Nat) (vs : List Value) (U : Tr) (tk : Int) (tt : ByteArray) (tn : Int) (a1 : Option Addr) (n1 c1 : Nat) (a2 : Option Addr) (n2 c2 : Nat), la = some ⟨g, 0, none⟩ ∧ g < w4.heap.size ∧ l.length ≤ lc ∧ U ∈ l ∧ (vs.flatMap cellsOf).length = l.length * 5 ∧ (∀ u ∈ vs.flatMap cellsOf, u.oneCell' = true) ∧
  (w4.cell? ⟨g, i * 5, none⟩ = some (.int .i64 tk) ∧ w4.cell? ⟨g, i * 5 + 1, none⟩ = some (.string tt) ∧ w4.cell? ⟨g, i * 5 + 2, none⟩ = some (.int .i64 tn) ∧ w4.cell? ⟨g, i * 5 + 3, none⟩ = some (.slice a1 n1 c1) ∧ w4.cell? ⟨g, i * 5 + 4, none⟩ = some (.slice a2 n2 c2)) ∧
  ∀ w, Gr (fun k => w4.heap.size ≤ k) w4 w → (∀ j u, (vs.flatMap cellsOf)[j]? = some u → w.cell? ((⟨g, 0, none⟩ : Addr).add j) = some u) ∧ Reps A w l vs ∧ Reps A w [U] [trv tk tt tn (.slice a1 n1 c1) (.slice a2 n2 c2)] := by
 obtain ⟨bv', lv, vs, e, hb, hr, hp⟩ := h
 simp only [trv, Value.agg.injEq, Array.mk.injEq, List.cons.injEq, and_true] at e
 obtain ⟨_, _, _, _, rfl⟩ := e
 rcases hr with ⟨h0', _⟩ | ⟨g, cap, cur, e, hg, hc, hcap, htk⟩
 · omega
 cases e
 replace hp : Reps A w4 l vs := hp
 have hgl := (Array.getElem?_eq_some_iff.1 hc).1
 have hcell : ∀ w, Gr (fun k => w4.heap.size ≤ k) w4 w → ∀ j u, (vs.flatMap cellsOf)[j]? = some u → w.cell? ⟨g, j, none⟩ = some u := fun w gr j u hj => by
  have hc' := gr.keep hc (by omega)
  have hlt := (List.getElem?_eq_some_iff.1 hj).1
  rw [← htk] at hj
  rw [hp.cells] at hlt
  rw [List.getElem?_take_of_lt hlt] at hj
  simp only [World.cell?, hc']
  simpa using hj
 have hadd : ∀ o j, (⟨g, o, none⟩ : Addr).add j = ⟨g, o + j, none⟩ := fun o j => by unfold Addr.add; split <;> simp_all
 obtain ⟨v', h1, h2⟩ := Reps.at hp i l[i] (List.getElem?_eq_getElem hi)
 obtain ⟨tk, tt, tn, a1, n1, c1, a2, n2, c2, rfl⟩ := h1.agg
 have hc0 := hcell w4 (Gr.refl _ _)
 refine ⟨g, vs, l[i], tk, tt, tn, a1, n1, c1, a2, n2, c2, rfl, hgl, hcap, List.getElem_mem hi, hp.cells, hp.one, ⟨hc0 _ _ (h2 0 _ rfl), hc0 _ _ (h2 1 _ rfl), hc0 _ _ (h2 2 _ rfl), hc0 _ _ (h2 3 _ rfl), hc0 _ _ (h2 4 _ rfl)⟩, fun w gr => ⟨fun j u hj => ?_, ?_, ?_⟩⟩
 · rw [hadd, Nat.zero_add]
   exact hcell w gr _ _ hj
 · exact Reps.turn (fun z hz hl => ⟨hz, gr.block z hl (by have := hA z hz; omega)⟩) hp
 · exact ⟨_, [], rfl, h1.turn (fun z hz hl => ⟨hz, gr.block z hl (by have := hA z hz; omega)⟩), rfl⟩
theorem szs_snoc {l : List Tr} {U : Tr} (hU : U ∈ l) (hl : l.length ≤ 100) (h : Szs [.mk 18 e0 0 [] l]) : Szs [.mk 18 e0 0 [] (l ++ [U])] := by
 intro V hV
 rw [pre_18] at hV
 have hh : ∀ V, V = Tr.mk 18 e0 0 [] l ∨ V ∈ preL l → szT V := fun V hV => h V (by rw [pre_18]; exact List.mem_cons.2 hV)
 rcases List.mem_cons.1 hV with rfl | hV
 · exact ⟨(hh _ (.inl rfl)).1, by rw [List.length_append, List.length_singleton]; omega⟩
 · refine hh V (.inr ?_)
   rw [preL_app] at hV
   rcases List.mem_append.1 hV with hV | hV
   · exact hV
   · exact pre_memr hU hV
theorem wpAnyL_three {P : Program} {ops : Array Oper} {Q : Exit → Act → World → Prop} {md : Region.Mode} {T : World → Prop} {L i j m : Nat} {o o' o'' : Oper} {f : Nat} {listed : Array Bool} {a : Act} {w : World} (hr : Region.ready md ops listed = [i, j, m]) (ho : ops[i]? = some o) (ho' : ops[j]? = some o') (ho'' : ops[m]? = some o'')
 (h : ∀ K' : Act → World → Prop, Shut (∀ a w, (i ≠ L → T w) → wpAnyL P md ops Q T L f (listed.setIfInBounds i true) a w → K' a w) → if Region.wanted o (yielded ops a.tmps) = true then Oper.wp P o a w K' Q else K' (a.put o.dst undef) w)
 (h' : ∀ K' : Act → World → Prop, Shut (∀ a w, (j ≠ L → T w) → wpAnyL P md ops Q T L f (listed.setIfInBounds j true) a w → K' a w) → if Region.wanted o' (yielded ops a.tmps) = true then Oper.wp P o' a w K' Q else K' (a.put o'.dst undef) w)
 (h'' : ∀ K' : Act → World → Prop, Shut (∀ a w, (m ≠ L → T w) → wpAnyL P md ops Q T L f (listed.setIfInBounds m true) a w → K' a w) → if Region.wanted o'' (yielded ops a.tmps) = true then Oper.wp P o'' a w K' Q else K' (a.put o''.dst undef) w) : wpAnyL P md ops Q T L (f + 1) listed a w := by
 refine ⟨fun h0 => (by rw [hr] at h0; cases h0), fun k hk => ?_⟩
 rw [hr] at hk
 rcases List.mem_cons.1 hk with rfl | hk
 · exact wpOp_step ho (fun K' hK => h K' (fun a w h1 h2 => hK a w ⟨h1, h2⟩))
 rcases List.mem_cons.1 hk with rfl | hk
 · exact wpOp_step ho' (fun K' hK => h' K' (fun a w h1 h2 => hK a w ⟨h1, h2⟩))
 · rw [List.mem_singleton] at hk
   subst hk
   exact wpOp_step ho'' (fun K' hK => h'' K' (fun a w h1 h2 => hK a w ⟨h1, h2⟩))
set_option maxRecDepth 100000 in
set_option maxHeartbeats 16000000 in
theorem more_c (W : World) (s : ByteArray) (n : Int) (hn : 0 ≤ n ∧ n ≤ 255) (hms : s.size ≤ maxLen) (hE : Er W) (hS : Sg W) (hL : Lv W) (hB : Bu W) : Calls Tryz.prog 7 #[.string s, .int .u8 n] W fun x w' => x = .returned (.bool true) ∧ Gr (fun _ => False) W w' := by
 have hal := alive_c W hE hS hL hB
 have htc := fun s w (g : Gr (fun _ => False) W w) => tree_c w s (hE.gr g (fun e => e)) (hS.gr g (fun e => e)) (hL.gr g (fun e => e) (fun e => e))
 have hck := fun w (g : Gr (fun _ => False) W w) T v hR hs => check_c w T v hR hs (Bu.gr hB g (fun e => e))
 replace htc := Lib.hid htc
 replace hck := Lib.hid hck
 clear hE hS hL hB
 obtain ⟨j, hj, hj26⟩ : ∃ j : Nat, n % 26 = (j : Int) ∧ j < 26 := ⟨(n % 26).toNat, by have := Int.emod_nonneg n (b := 26) (by omega); omega, by have := Int.emod_lt_of_pos n (b := 26) (by omega); omega⟩
 have hjI : (j : Int) < 26 := by omega
 go_enter Tryz.func7, Tryz.ntmps7
 go_wp2_with fail
 refine hal.mono ?_
 rintro x w1 ⟨rfl, g1⟩
 clear hal
 go_wp2_with fail
 have ht := htc.out s w1 g1
 obtain ⟨cb, hcb⟩ : ∃ cb : ByteArray, cb = ⟨#[UInt8.ofNat (97 + j)]⟩ := ⟨_, rfl⟩
 obtain ⟨zn, hzz⟩ : ∃ zn : ByteArray, zn = zzN j := ⟨_, rfl⟩
 have hzn := zn_eq hcb
 rw [← hzz] at hzn
 have hzs : zn.size = 4 := by rw [hzz]; rfl
 replace hzz := Lib.hid hzz
 have hcs : cb.size = 1 := by rw [hcb]; rfl
 have hcv := fun w o => conv_two w o j cb hcb
 replace hcb := Lib.hid hcb
 cases hv : textV s with
 | error p =>
  rw [hv] at ht
  clear hv
  refine ht.mono ?_
  rintro x w2 ⟨rfl, g2⟩
  replace hcv := hcv w2 (.cells zc 25)
  go_wp2_with fail
  go_ret
  exact ⟨rfl, ((g1.trans g2).trans (Gr.alloc _ _ _)).trans (Gr.alloc _ _ _)⟩
 | ok T =>
  rw [hv] at ht
  obtain ⟨l, rfl⟩ := text_prog hv
  have hfew := Lib.hid (text_few hv)
  have hszs := Lib.hid (text_szs hv)
  have hlen : l.length ≤ 8009 := hfew.out _ (by rw [preL_cons]; exact List.mem_cons_self ..)
  replace hv := Lib.hid hv
  refine ht.mono ?_
  rintro x w2 ⟨v, rfl, rep2, g2⟩
  obtain ⟨ba, bc, la, lc, rfl, hk⟩ := rep2.parts
  replace hcv := hcv w2 (.cells #[.int .i64 18, .string e0, .int .i64 0, .slice ba 0 bc, .slice la l.length lc] 25)
  have gA := Gr.alloc w2 (.cells #[.int .i64 18, .string e0, .int .i64 0, .slice ba 0 bc, .slice la l.length lc] 25) (fun _ => False)
  have hA := heap_alloc_new w2 (.cells #[.int .i64 18, .string e0, .int .i64 0, .slice ba 0 bc, .slice la l.length lc] 25)
  have hzA : (w2.alloc (.cells #[.int .i64 18, .string e0, .int .i64 0, .slice ba 0 bc, .slice la l.length lc] 25)).heap.size = w2.heap.size + 1 := by simp
  have gA2 := Gr.alloc (w2.alloc (.cells #[.int .i64 18, .string e0, .int .i64 0, .slice ba 0 bc, .slice la l.length lc] 25)) (.cells #[.int .u8 (97 + (j : Int))] 5) (fun _ => False)
  have G2 := g1.trans g2
  have hlI : (l.length : Int) ≤ 8009 := by omega
  clear ht hk
  go_wp2_with fail
  clear hcv
  replace hA := gA2.keep hA (fun e => e)
  replace gA2 := gA.trans gA2
  generalize (w2.alloc _).alloc _ = w3 at gA2 hA ⊢
  obtain ⟨tb, htb⟩ : ∃ tb, w2.heap.size = tb := ⟨_, rfl⟩
  have hzA2 := hzA
  clear hzA
  rw [htb] at hA ⊢
  have htw := (Array.getElem?_eq_some_iff.1 hA).1
  have rep3 : Rep (fun z => z < w3.heap.size ∧ z ≠ tb) w3 (.mk 18 e0 0 [] l) (trv 18 e0 0 (.slice ba 0 bc) (.slice la l.length lc)) := rep2.turn (fun z hz hl => ⟨by omega, gA2.block z hl (fun e => e)⟩)
  have G3 := G2.trans gA2
  have hc1 := hck.out w3 G3 _ _ (rep3.gen.turn (A' := fun z => z < w3.heap.size) (fun z hz hl => ⟨hl, rfl⟩)) hszs.out
  obtain ⟨c, hc⟩ : ∃ c, c = chkV (.mk 18 e0 0 [] l) := ⟨_, rfl⟩
  rw [← hc] at hc1
  replace hc := Lib.hid hc
  refine hc1.mono ?_
  rintro x w4 ⟨rfl, g4⟩
  have G4 := G3.trans g4
  have hA4 := g4.keep hA (fun e => e)
  have rep4 : Rep (fun z => z < w4.heap.size ∧ z ≠ tb) w4 (.mk 18 e0 0 [] l) (trv 18 e0 0 (.slice ba 0 bc) (.slice la l.length lc)) := rep3.turn (fun z hz hl => ⟨⟨by have := g4.size; omega, hz.2⟩, g4.block z hl (fun e => e)⟩)
  have htw4 : tb < w4.heap.size := (Array.getElem?_eq_some_iff.1 hA4).1
  obtain ⟨⟨m0, m1, m2, m3, m4⟩, _⟩ := five_cells hA4
  have hmI : (s.size : Int) ≤ 9223372036854775807 := by unfold maxLen at hms; omega
  clear hA hc1 rep2 rep3 gA gA2 htw
  by_cases hc0 : c = 0
  case neg =>
   have qc : (c != 0) = true := by rw [bne_iff_ne]; exact hc0
   replace hc0 := Lib.hid hc0
   go_wp2_with fail
   go_ret
   exact ⟨rfl, G4⟩
  have qc : (c != 0) = false := by simp [hc0]
  by_cases hl64 : 64 ≤ l.length
  · have ql : decide ((64 : Int) ≤ (l.length : Int)) = true := by simp; omega
    replace hc0 := Lib.hid hc0
    go_wp2_with fail
    go_ret
    exact ⟨rfl, G4⟩
  have ql : decide ((64 : Int) ≤ (l.length : Int)) = false := by simp; omega
  by_cases hs1 : 10000 < s.size
  · have qs : decide ((10000 : Int) < (s.size : Int)) = true := by simp; omega
    replace hc0 := Lib.hid hc0
    go_wp2_with fail
    go_ret
    exact ⟨rfl, G4⟩
  have qs : decide ((10000 : Int) < (s.size : Int)) = false := by simp; omega
  have hhas := Lib.hid (has22_c w4 _ _ zn (rep4.gen.turn (A' := fun z => z < w4.heap.size) (fun z hz hl => ⟨hl, rfl⟩)))
  replace hc0 := Lib.hid hc0
  go_wp2_with fail
  refine hhas.out.mono ?_
  rintro x w5 ⟨rfl, g5⟩
  clear hhas
  cases hh : inL (nms ((preL [Tr.mk 18 e0 0 [] l]).take 4000)) zn with
  | true =>
   go_wp2_with fail
   go_ret
   exact ⟨rfl, G4.trans g5⟩
  | false =>
   replace hh := Lib.hid hh
   have cc1 : s.size + 1 ≤ 9223372036854775807 := by omega
   have cc2 : (s ++ ⟨#[32]⟩).size + zn.size ≤ 9223372036854775807 := by
    rw [ByteArray.size_append, hzs]
    have : (⟨#[32]⟩ : ByteArray).size = 1 := rfl
    omega
   have cc3 : (s ++ ⟨#[32]⟩ ++ zn).size + 15 ≤ 9223372036854775807 := by
    rw [ByteArray.size_append, ByteArray.size_append, hzs]
    have : (⟨#[32]⟩ : ByteArray).size = 1 := rfl
    omega
   go_wp2_with fail
   obtain ⟨u, hu⟩ : ∃ u, u = s ++ ⟨#[32]⟩ ++ bT j := ⟨_, rfl⟩
   rw [u_eq hzz.out, ← hu]
   have ht2 := htc.out u w5 (G4.trans g5)
   have h0 : chkV (.mk 18 e0 0 [] l) = 0 := by rw [← hc.out]; exact hc0.out
   have hcase : (∃ p, textV u = .error p) ∨ ∃ m, textV u = .ok (.mk 18 e0 0 [] m) ∧ (chkV (.mk 18 e0 0 [] m) = 0 ∨ chkV (.mk 18 e0 0 [] m) = 170) := by
    rcases text_more hj26 hv.out (by omega) with h | ⟨l', e, h⟩ | ⟨p, h⟩
    · exact .inr ⟨l, by rw [hu]; exact h, .inl h0⟩
    · cases e
      exact .inr ⟨_, by rw [hu]; exact h, chk_more hj26 h0 (by omega) (by rw [← hzz.out]; exact hh.out)⟩
    · exact .inl ⟨p, by rw [hu]; exact h⟩
   clear hu cc1 cc2 cc3 hc
   replace h0 := Lib.hid h0
   rcases hcase with ⟨p, hp⟩ | ⟨m, hp, hcU⟩
   · rw [hp] at ht2
     clear hp
     refine ht2.mono ?_
     rintro x w6 ⟨rfl, g6⟩
     go_wp2_with fail
     go_ret
     exact ⟨rfl, ((G4.trans g5).trans g6).trans (Gr.alloc _ _ _)⟩
   rw [hp] at ht2
   have hszU := Lib.hid (text_szs hp)
   replace hcU := Lib.hid hcU
   clear hp
   refine ht2.mono ?_
   rintro x w6 ⟨v6, rfl, rep6, g6⟩
   obtain ⟨uk, ut, un, d1, o1, f1, d2, o2, f2, rfl⟩ := rep6.agg
   have gB := Gr.alloc w6 (.cells #[.int .i64 uk, .string ut, .int .i64 un, .slice d1 o1 f1, .slice d2 o2 f2] 25) (fun _ => False)
   have A6 := (g5.trans g6).keep hA4 (fun e => e)
   clear ht2
   go_wp2_with fail
   generalize w6.alloc _ = w7 at gB ⊢
   have hc2 := hck.out w7 ((G4.trans g5).trans (g6.trans gB)) _ _ (rep6.gen.turn (A' := fun z => z < w7.heap.size) (fun z hz hl => ⟨Nat.lt_of_lt_of_le hl gB.size, gB.block z hl (fun e => e)⟩)) hszU.out
   obtain ⟨cU, hcu⟩ : ∃ cU, cU = chkV (.mk 18 e0 0 [] m) := ⟨_, rfl⟩
   rw [← hcu] at hc2 hcU
   clear hcu
   refine hc2.mono ?_
   rintro x w8 ⟨rfl, g8⟩
   have g48 : Gr (fun _ => False) w4 w8 := (g5.trans (g6.trans gB)).trans g8
   have G8 := G4.trans g48
   have A8 := (gB.trans g8).keep A6 (fun e => e)
   have rep8 : Rep (fun z => z < w8.heap.size ∧ z ≠ tb) w8 (.mk 18 e0 0 [] l) (trv 18 e0 0 (.slice ba 0 bc) (.slice la l.length lc)) := rep4.turn (fun z hz hl => ⟨⟨by have := g48.size; omega, hz.2⟩, g48.block z hl (fun e => e)⟩)
   have htw8 : tb < w8.heap.size := (Array.getElem?_eq_some_iff.1 A8).1
   clear m0 m1 m2 m3 m4 rep4 hc2 rep6 hA4 A6 g48 gB g6 g5 g8 G4 htw4 G3 G2 g4 g2 g1 htc hcs hzn hzs
   obtain ⟨⟨m0, m1, m2, m3, m4⟩, _⟩ := five_cells A8
   have hl0 : 0 < l.length := by
    rcases Nat.eq_zero_or_pos l.length with e | e
    · exfalso
      have hl : l = [] := List.eq_nil_of_length_eq_zero e
      have h1 := h0.out
      rw [hl] at h1
      obtain ⟨_, _, _, _, _, _, _, _, h10⟩ := chk_zero h1
      exact absurd h10 (by decide)
    · exact e
   obtain ⟨i, hin, hil⟩ : ∃ i : Nat, n % (l.length : Int) = (i : Int) ∧ i < l.length := ⟨(n % (l.length : Int)).toNat, by have := Int.emod_nonneg n (b := (l.length : Int)) (by omega); omega, by have := Int.emod_lt_of_pos n (b := (l.length : Int)) (by omega); omega⟩
   obtain ⟨g, vs, U, tk, tt, tn, a1, n1, c1, a2, n2, c2, rfl, hgl, hlc, hUl, hvl, hv1, ⟨k0, k1, k2, k3, k4⟩, hP⟩ := prog_row2 (i := i) rep8 (fun z hz => hz.1) hil
   obtain ⟨i0, hi0, hzz', hz1, hz2⟩ := info_parts info25
   have hcA := Lib.hid (chk_again hUl h0.out (by omega))
   have hszA := Lib.hid (szs_snoc hUl (by omega) hszs.out)
   obtain ⟨cA, hca⟩ : ∃ cA, cA = chkV (.mk 18 e0 0 [] (l ++ [U])) := ⟨_, rfl⟩
   rw [← hca] at hcA
   have hliI : (i : Int) < (l.length : Int) := by omega
   have hlc' : l.length ≤ lc := hlc
   replace hP := Lib.hid hP
   replace hvl := Lib.hid hvl
   replace hv1 := Lib.hid hv1
   replace hca := Lib.hid hca
   clear hUl
   go_wp2_with fail
   have hwr : IntKind.i64.wrap n = n := by rw [IntKind.wrap_i64]; omega
   have hmod : n.tmod (l.length : Int) = (i : Int) := by rw [Int.tmod_eq_emod_of_nonneg hn.1]; exact hin
   have hwi : IntKind.i64.wrap (i : Int) = (i : Int) := by rw [IntKind.wrap_i64]; omega
   have hlnil : ¬ l = [] := fun h => by rw [h] at hl0; exact absurd hl0 (by decide)
   have hlne : ¬ (l.length : Int) = 0 := by omega
   have hlne2 : ((l.length : Int) == 0) = false := by simp; intro h; rw [h] at hl0; exact absurd hl0 (by decide)
   refine wp_region_L (T := SM tb g i (.slice (some ⟨g, 0, none⟩) l.length lc) tk tt tn (.slice a1 n1 c1) (.slice a2 n2 c2)) (L := 18) (by kernel_rfl) ?_
   have Gw : Gr (fun k => w8.heap.size ≤ k) w8 w8.drew := Gr.drew _ _
   have TSb : SM tb g i (.slice (some ⟨g, 0, none⟩) l.length lc) tk tt tn (.slice a1 n1 c1) (.slice a2 n2 c2) w8 := ⟨m4, k0, k1, k2, k3, k4⟩
   have TS : SM tb g i (.slice (some ⟨g, 0, none⟩) l.length lc) tk tt tn (.slice a1 n1 c1) (.slice a2 n2 c2) w8.drew := TSb.gr Gw (by omega) (by omega)
   clear m0 m1 m2 m3 m4 k0 k1 k2 k3 k4
   generalize w8.drew = w at Gw TS ⊢
   refine wpAnyL_at (i := 1) (v := ptr tb 4) (some 61) rfl rfl (by kernel_rfl) (by kernel_rfl) (by kernel_rfl) (by kernel_rfl) (by decide) (fun _ _ _ h => h) (Or.inl ⟨by rfl, ?_⟩) TS ?_
   · intro w hSw
     obtain ⟨hs0, e0, e1, e2, e3, e4⟩ := hSw
     have hgw := World.block_lt_of_cell? _ _ e0
     go_simp
     try (intro h; exfalso; omega)
     try simp [hwr, hmod, hwi, hlne, hlne2, hlnil]
   try simp only [Act.put, sa1, sa2, sa3]
   refine wpAnyL_at (i := 2) (v := .slice (some ⟨g, 0, none⟩) l.length lc) (some 62) rfl rfl (by kernel_rfl) (by kernel_rfl) (by kernel_rfl) (by kernel_rfl) (by decide) (fun _ _ _ h => h) (Or.inl ⟨by rfl, ?_⟩) TS ?_
   · intro w hSw
     obtain ⟨hs0, e0, e1, e2, e3, e4⟩ := hSw
     have hgw := World.block_lt_of_cell? _ _ e0
     go_simp
     try (intro h; exfalso; omega)
     try simp [hwr, hmod, hwi, hlne, hlne2, hlnil]
   try simp only [Act.put, sa1, sa2, sa3]
   refine wpAnyL_at (i := 4) (v := ptr tb 4) (some 64) rfl rfl (by kernel_rfl) (by kernel_rfl) (by kernel_rfl) (by kernel_rfl) (by decide) (fun _ _ _ h => h) (Or.inl ⟨by rfl, ?_⟩) TS ?_
   · intro w hSw
     obtain ⟨hs0, e0, e1, e2, e3, e4⟩ := hSw
     have hgw := World.block_lt_of_cell? _ _ e0
     go_simp
     try (intro h; exfalso; omega)
     try simp [hwr, hmod, hwi, hlne, hlne2, hlnil]
   try simp only [Act.put, sa1, sa2, sa3]
   refine wpAnyL_at (i := 5) (v := .slice (some ⟨g, 0, none⟩) l.length lc) (some 65) rfl rfl (by kernel_rfl) (by kernel_rfl) (by kernel_rfl) (by kernel_rfl) (by decide) (fun _ _ _ h => h) (Or.inl ⟨by rfl, ?_⟩) TS ?_
   · intro w hSw
     obtain ⟨hs0, e0, e1, e2, e3, e4⟩ := hSw
     have hgw := World.block_lt_of_cell? _ _ e0
     go_simp
     try (intro h; exfalso; omega)
     try simp [hwr, hmod, hwi, hlne, hlne2, hlnil]
   try simp only [Act.put, sa1, sa2, sa3]
   refine wpAnyL_at (i := 6) (v := .int .u8 n) (some 66) rfl rfl (by kernel_rfl) (by kernel_rfl) (by kernel_rfl) (by kernel_rfl) (by decide) (fun _ _ _ h => h) (Or.inl ⟨by rfl, ?_⟩) TS ?_
   · intro w hSw
     obtain ⟨hs0, e0, e1, e2, e3, e4⟩ := hSw
     have hgw := World.block_lt_of_cell? _ _ e0
     go_simp
     try (intro h; exfalso; omega)
     try simp [hwr, hmod, hwi, hlne, hlne2, hlnil]
   try simp only [Act.put, sa1, sa2, sa3]
   refine wpAnyL_at (i := 7) (v := .int .i64 n) (some 67) rfl rfl (by kernel_rfl) (by kernel_rfl) (by kernel_rfl) (by kernel_rfl) (by decide) (fun _ _ _ h => h) (Or.inl ⟨by rfl, ?_⟩) TS ?_
   · intro w hSw
     obtain ⟨hs0, e0, e1, e2, e3, e4⟩ := hSw
     have hgw := World.block_lt_of_cell? _ _ e0
     go_simp
     try (intro h; exfalso; omega)
     try simp [hwr, hmod, hwi, hlne, hlne2, hlnil]
   try simp only [Act.put, sa1, sa2, sa3]
   refine wpAnyL_at (i := 8) (v := ptr tb 4) (some 68) rfl rfl (by kernel_rfl) (by kernel_rfl) (by kernel_rfl) (by kernel_rfl) (by decide) (fun _ _ _ h => h) (Or.inl ⟨by rfl, ?_⟩) TS ?_
   · intro w hSw
     obtain ⟨hs0, e0, e1, e2, e3, e4⟩ := hSw
     have hgw := World.block_lt_of_cell? _ _ e0
     go_simp
     try (intro h; exfalso; omega)
     try simp [hwr, hmod, hwi, hlne, hlne2, hlnil]
   try simp only [Act.put, sa1, sa2, sa3]
   refine wpAnyL_at (i := 9) (v := .slice (some ⟨g, 0, none⟩) l.length lc) (some 69) rfl rfl (by kernel_rfl) (by kernel_rfl) (by kernel_rfl) (by kernel_rfl) (by decide) (fun _ _ _ h => h) (Or.inl ⟨by rfl, ?_⟩) TS ?_
   · intro w hSw
     obtain ⟨hs0, e0, e1, e2, e3, e4⟩ := hSw
     have hgw := World.block_lt_of_cell? _ _ e0
     go_simp
     try (intro h; exfalso; omega)
     try simp [hwr, hmod, hwi, hlne, hlne2, hlnil]
   try simp only [Act.put, sa1, sa2, sa3]
   refine wpAnyL_at (i := 10) (v := .int .i64 (l.length : Int)) (some 70) rfl rfl (by kernel_rfl) (by kernel_rfl) (by kernel_rfl) (by kernel_rfl) (by decide) (fun _ _ _ h => h) (Or.inl ⟨by rfl, ?_⟩) TS ?_
   · intro w hSw
     obtain ⟨hs0, e0, e1, e2, e3, e4⟩ := hSw
     have hgw := World.block_lt_of_cell? _ _ e0
     go_simp
     try (intro h; exfalso; omega)
     try simp [hwr, hmod, hwi, hlne, hlne2, hlnil]
   try simp only [Act.put, sa1, sa2, sa3]
   refine wpAnyL_at (i := 11) (v := .int .i64 (i : Int)) (some 71) rfl rfl (by kernel_rfl) (by kernel_rfl) (by kernel_rfl) (by kernel_rfl) (by decide) (fun _ _ _ h => h) (Or.inl ⟨by rfl, ?_⟩) TS ?_
   · intro w hSw
     obtain ⟨hs0, e0, e1, e2, e3, e4⟩ := hSw
     have hgw := World.block_lt_of_cell? _ _ e0
     go_simp
     try (intro h; exfalso; omega)
     try simp [hwr, hmod, hwi, hlne, hlne2, hlnil]
   try simp only [Act.put, sa1, sa2, sa3]
   refine wpAnyL_at (i := 12) (v := ptr g (i * 5)) (some 72) rfl rfl (by kernel_rfl) (by kernel_rfl) (by kernel_rfl) (by kernel_rfl) (by decide) (fun _ _ _ h => h) (Or.inl ⟨by rfl, ?_⟩) TS ?_
   · intro w hSw
     obtain ⟨hs0, e0, e1, e2, e3, e4⟩ := hSw
     have hgw := World.block_lt_of_cell? _ _ e0
     go_simp
     try (intro h; exfalso; omega)
     try simp [hwr, hmod, hwi, hlne, hlne2, hlnil]
   try simp only [Act.put, sa1, sa2, sa3]
   refine wpAnyL_at (i := 13) (v := trv tk tt tn (.slice a1 n1 c1) (.slice a2 n2 c2)) (some 73) rfl rfl (by kernel_rfl) (by kernel_rfl) (by kernel_rfl) (by kernel_rfl) (by decide) (fun _ _ _ h => h) (Or.inl ⟨by rfl, ?_⟩) TS ?_
   · intro w hSw
     obtain ⟨hs0, e0, e1, e2, e3, e4⟩ := hSw
     have hgw := World.block_lt_of_cell? _ _ e0
     go_simp
     try (intro h; exfalso; omega)
     try simp [hwr, hmod, hwi, hlne, hlne2, hlnil]
   try simp only [Act.put, sa1, sa2, sa3]
   clear hn hin hwr hmod hwi hlne hlne2 hlnil
   refine wpAnyL_three (i := 0) (j := 14) (m := 17) (by kernel_rfl) rfl rfl rfl (fun K hK => ?_) (fun K hK => ?_) (fun K hK => ?_)
   ·
    go_simp
    have rowwa := row_empty (w0 := w) (base := w8.heap.size) Gw.size
    have gz := Gr.alloc w (.cells #[] 25) (fun _ => False)
    have Gwa := Gw.trans (gz.any _)
    have TS : SM tb g i (.slice (some ⟨g, 0, none⟩) l.length lc) tk tt tn (.slice a1 n1 c1) (.slice a2 n2 c2) (w.alloc (.cells #[] 25)) := TSb.gr Gwa (by omega) (by omega)
    have hswa : w.heap.size < (w.alloc (.cells #[] 25)).heap.size := by simp
    refine hK.out _ _ (fun _ => TS) ?_
    clear hK K gz
    generalize w.alloc (.cells #[] 25) = wa at *
    obtain ⟨gbwa, hgbwa⟩ : ∃ u, w.heap.size = u := ⟨_, rfl⟩
    rw [hgbwa] at rowwa  ⊢
    try simp only [Act.put, sa1, sa2, sa3]
    refine wpAnyL_three (i := 3) (j := 14) (m := 17) (by kernel_rfl) rfl rfl rfl (fun K hK => ?_) (fun K hK => ?_) (fun K hK => ?_)
    ·
     refine step_row i0 hi0 hzz' hz1 hz2 rfl _ _ rfl w8.heap.size (.slice (some ⟨gbwa, 0, none⟩) 0 0) 0 l.length [] ⟨g, 0, none⟩ lc (vs.flatMap cellsOf) rfl rfl rowwa hvl.out (hP.out wa Gwa).1 hv1.out (by omega) Gwa.size ?_
     intro vwa1 wa1 rowwa1 gg keep
     rw [Nat.zero_add, List.nil_append] at rowwa1
     have Gwa1 := Gwa.trans gg
     have TS : SM tb g i (.slice (some ⟨g, 0, none⟩) l.length lc) tk tt tn (.slice a1 n1 c1) (.slice a2 n2 c2) wa1 := TSb.gr Gwa1 (by omega) (by omega)
     obtain ⟨awa1, cwa1, rfl⟩ := ownsRow_sv rowwa1
     refine hK.out _ _ (fun _ => TS) ?_
     clear hK K gg keep
     try simp only [Act.put, sa1, sa2, sa3]
     refine wpAnyL_two (i := 14) (j := 17) (by kernel_rfl) rfl rfl (fun K hK => ?_) (fun K hK => ?_)
     ·
      go_simp
      have gz := Gr.alloc wa1 (.cells #[.int .i64 tk, .string tt, .int .i64 tn, .slice a1 n1 c1, .slice a2 n2 c2] 25) (fun _ => False)
      have Gwa1l := Gwa1.trans (gz.any _)
      have hlwa1l := heap_alloc_new wa1 (.cells #[.int .i64 tk, .string tt, .int .i64 tn, .slice a1 n1 c1, .slice a2 n2 c2] 25)
      have TS : SM tb g i (.slice (some ⟨g, 0, none⟩) l.length lc) tk tt tn (.slice a1 n1 c1) (.slice a2 n2 c2) (wa1.alloc (.cells #[.int .i64 tk, .string tt, .int .i64 tn, .slice a1 n1 c1, .slice a2 n2 c2] 25)) := TSb.gr Gwa1l (by omega) (by omega)
      obtain ⟨lb, hblb⟩ : ∃ u, wa1.heap.size = u := ⟨_, rfl⟩
      have hklb : w8.heap.size ≤ lb := by have := Gwa1.size; omega
      have rowwa1l := ownsRow_gr rowwa1 gz (fun _ _ e => e)
      have hnlwa1l : (.slice awa1 l.length cwa1 : Value).ownBlock ≠ some lb := fun e => by have := (ownsRow_lt rowwa1 lb e).2; omega
      refine hK.out _ _ (fun _ => TS) ?_
      clear hK K gz
      rw [hblb] at hlwa1l ⊢
      generalize wa1.alloc (.cells #[.int .i64 tk, .string tt, .int .i64 tn, .slice a1 n1 c1, .slice a2 n2 c2] 25) = wa1l at *
      try simp only [Act.put, sa1, sa2, sa3]
      refine wpAnyL_two (i := 15) (j := 17) (by kernel_rfl) rfl rfl (fun K hK => ?_) (fun K hK => ?_)
      ·
       refine step_row i0 hi0 hzz' hz1 hz2 rfl _ _ rfl w8.heap.size (.slice awa1 l.length cwa1) l.length 1 (vs.flatMap cellsOf) ⟨lb, 0, none⟩ 1 [.int .i64 tk, .string tt, .int .i64 tn, .slice a1 n1 c1, .slice a2 n2 c2] rfl rfl rowwa1l rfl (lit_cells hlwa1l) (by simp [Value.oneCell']) (by omega) Gwa1l.size ?_
       intro vwa1l2 wa1l2 rowwa1l2 gg keep
       have Gwa1l2 := Gwa1l.trans gg
       have TS : SM tb g i (.slice (some ⟨g, 0, none⟩) l.length lc) tk tt tn (.slice a1 n1 c1) (.slice a2 n2 c2) wa1l2 := TSb.gr Gwa1l2 (by omega) (by omega)
       obtain ⟨hlwa1l2, hnlwa1l2⟩ := keep lb _ hlwa1l hnlwa1l
       obtain ⟨awa1l2, cwa1l2, rfl⟩ := ownsRow_sv rowwa1l2
       refine hK.out _ _ (fun _ => TS) ?_
       clear hK K gg keep
       try simp only [Act.put, sa1, sa2, sa3]
       refine wpAnyL_two (i := 16) (j := 17) (by kernel_rfl) rfl rfl (fun K hK => ?_) (fun K hK => ?_)
       ·
        go_simp
        refine hK.out _ _ (fun _ => TS) ?_
        clear hK K
        try simp only [Act.put, sa1, sa2, sa3]
        refine wpAnyL_one (i := 17) (by kernel_rfl) rfl (fun K hK => ?_)
        go_simp
        have gz := Gr.alloc wa1l2 (.cells zc 25) (fun _ => False)
        have Gwa1l2z := Gwa1l2.trans (gz.any _)
        have hzwa1l2z := heap_alloc_new wa1l2 (.cells zc 25)
        have TS : SM tb g i (.slice (some ⟨g, 0, none⟩) l.length lc) tk tt tn (.slice a1 n1 c1) (.slice a2 n2 c2) (wa1l2.alloc (.cells zc 25)) := TSb.gr Gwa1l2z (by omega) (by omega)
        obtain ⟨zb, hbzb⟩ : ∃ u, wa1l2.heap.size = u := ⟨_, rfl⟩
        have hkzb : w8.heap.size ≤ zb := by have := Gwa1l2.size; omega
        have rowwa1l2z := ownsRow_gr rowwa1l2 gz (fun _ _ e => e)
        have hnzwa1l2z : (.slice awa1l2 (l.length + 1) cwa1l2 : Value).ownBlock ≠ some zb := fun e => by have := (ownsRow_lt rowwa1l2 zb e).2; omega
        have hlwa1l2z := gz.keep hlwa1l2 (fun e => e)
        have hnlwa1l2z := hnlwa1l2
        refine hK.out _ _ (fun _ => TS) ?_
        clear hK K gz
        rw [hbzb] at hzwa1l2z ⊢
        generalize wa1l2.alloc (.cells zc 25) = wa1l2z at *
        try simp only [Act.put, sa1, sa2, sa3]
        refine wpAnyL_one (i := 18) (by kernel_rfl) rfl (fun K hK => ?_)
        obtain ⟨⟨_, _, _, _, _⟩, ff0, ff1, ff2, ff3, ff4⟩ := five_cells hzwa1l2z
        have hzl : zb < wa1l2z.heap.size := (Array.getElem?_eq_some_iff.1 hzwa1l2z).1
        go_simp
        refine hK.out _ _ (fun h => absurd rfl h) ?_
        clear hK K
        try simp only [Act.put, sa1, sa2, sa3]
        refine wpAnyL_done (by kernel_rfl) ?_ _
        refine NoPanic.normal ?_
        obtain ⟨F1, F2, F3⟩ := turns_fin (l1 := l) (l2 := [U]) (vs1 := vs) (vs2 := [trv tk tt tn (.slice a1 n1 c1) (.slice a2 n2 c2)]) (v := .slice awa1l2 (l.length + 1) cwa1l2) (w := wa1l2z) (zb := zb) Gwa1l2z rowwa1l2z (hP.out wa1l2z Gwa1l2z).2.1 (hP.out wa1l2z Gwa1l2z).2.2 (fun z hz => hz.1) hzwa1l2z hnzwa1l2z hkzb
        obtain ⟨wF, hwF⟩ : ∃ wF, set5 wa1l2z zb (.int .i64 18) (.string e0) (.int .i64 0) nl (.slice awa1l2 (l.length + 1) cwa1l2) = wF := ⟨_, rfl⟩
        rw [hwF] at F1 F2 F3
        rw [show ((((wa1l2z.setCell ⟨zb, 0, none⟩ (.int .i64 18)).setCell ⟨zb, 1, none⟩ (.string e0)).setCell ⟨zb, 2, none⟩ (.int .i64 0)).setCell ⟨zb, 3, none⟩ nl).setCell ⟨zb, 4, none⟩ (.slice awa1l2 (l.length + 1) cwa1l2) = wF from hwF]
        clear hwF
        have GF : Gr (fun _ => False) W wF := G8.trans' F1 (fun k hk e => by have := G8.size; omega)
        have hzF := (Array.getElem?_eq_some_iff.1 F3).1
        have hC : Hid (∀ w, Gr (fun _ => False) wF w → Calls Tryz.prog 11 #[trv 18 e0 0 nl (.slice awa1l2 (l.length + 1) cwa1l2)] w fun e w' => e = .returned (.int .i64 cA) ∧ Gr (fun _ => False) w w') := fun w gw => by
         have h := hck.out w (GF.trans gw) _ _ (F2.gen.turn (A' := fun z => z < w.heap.size) (fun z hz hl => ⟨Nat.lt_of_lt_of_le hl gw.size, gw.block z hl (fun e => e)⟩)) hszA.out
         rw [← hca.out] at h
         exact h
        have hF3 := Lib.hid F3
        obtain ⟨⟨t0, t1, t2, t3, t4⟩, _⟩ := five_cells F3
        clear F1 F2 F3 TS TSb
        rcases hcU.out with e | e
        ·
         have q1 : (cU == 0) = true := by rw [e]; rfl
         have hCw := hC.out wF (Gr.refl _ _)
         clear e
         go_wp2_with fail
         refine hCw.mono ?_
         rintro x w9 ⟨rfl, g9⟩
         have Z9 := g9.keep hF3.out (fun e => e)
         have hzw9 := (Array.getElem?_eq_some_iff.1 Z9).1
         clear t0 t1 t2 t3 t4
         obtain ⟨⟨t0, t1, t2, t3, t4⟩, _⟩ := five_cells Z9
         rcases hcA.out with e' | e'
         · have q3 : (cA == 171) = true := by rw [e']; rfl
           clear e'
           go_wp2_with fail
           go_ret
           exact ⟨rfl, GF.trans g9⟩
         · have q3 : (cA == 171) = false := by rw [e']; rfl
           have q4 : (cA == 170) = true := by rw [e']; rfl
           have hCw := hC.out w9 g9
           clear e'
           go_wp2_with fail
           refine hCw.mono ?_
           rintro x w10 ⟨rfl, g10⟩
           go_wp2_with fail
           go_ret
           exact ⟨rfl, (GF.trans g9).trans g10⟩
        ·
         have q1 : (cU == 0) = false := by rw [e]; rfl
         have q2 : (cU == 170) = true := by rw [e]; rfl
         have hCw := hC.out wF (Gr.refl _ _)
         clear e
         go_wp2_with fail
         refine hCw.mono ?_
         rintro x w9 ⟨rfl, g9⟩
         have Z9 := g9.keep hF3.out (fun e => e)
         have hzw9 := (Array.getElem?_eq_some_iff.1 Z9).1
         clear t0 t1 t2 t3 t4
         obtain ⟨⟨t0, t1, t2, t3, t4⟩, _⟩ := five_cells Z9
         rcases hcA.out with e' | e'
         · have q3 : (cA == 171) = true := by rw [e']; rfl
           clear e'
           go_wp2_with fail
           go_ret
           exact ⟨rfl, GF.trans g9⟩
         · have q3 : (cA == 171) = false := by rw [e']; rfl
           have q4 : (cA == 170) = true := by rw [e']; rfl
           have hCw := hC.out w9 g9
           clear e'
           go_wp2_with fail
           refine hCw.mono ?_
           rintro x w10 ⟨rfl, g10⟩
           go_wp2_with fail
           go_ret
           exact ⟨rfl, (GF.trans g9).trans g10⟩
       ·
        go_simp
        have gz := Gr.alloc wa1l2 (.cells zc 25) (fun _ => False)
        have Gwa1l2z := Gwa1l2.trans (gz.any _)
        have hzwa1l2z := heap_alloc_new wa1l2 (.cells zc 25)
        have TS : SM tb g i (.slice (some ⟨g, 0, none⟩) l.length lc) tk tt tn (.slice a1 n1 c1) (.slice a2 n2 c2) (wa1l2.alloc (.cells zc 25)) := TSb.gr Gwa1l2z (by omega) (by omega)
        obtain ⟨zb, hbzb⟩ : ∃ u, wa1l2.heap.size = u := ⟨_, rfl⟩
        have hkzb : w8.heap.size ≤ zb := by have := Gwa1l2.size; omega
        have rowwa1l2z := ownsRow_gr rowwa1l2 gz (fun _ _ e => e)
        have hnzwa1l2z : (.slice awa1l2 (l.length + 1) cwa1l2 : Value).ownBlock ≠ some zb := fun e => by have := (ownsRow_lt rowwa1l2 zb e).2; omega
        have hlwa1l2z := gz.keep hlwa1l2 (fun e => e)
        have hnlwa1l2z := hnlwa1l2
        refine hK.out _ _ (fun _ => TS) ?_
        clear hK K gz
        rw [hbzb] at hzwa1l2z ⊢
        generalize wa1l2.alloc (.cells zc 25) = wa1l2z at *
        try simp only [Act.put, sa1, sa2, sa3]
        refine wpAnyL_one (i := 16) (by kernel_rfl) rfl (fun K hK => ?_)
        go_simp
        refine hK.out _ _ (fun _ => TS) ?_
        clear hK K
        try simp only [Act.put, sa1, sa2, sa3]
        refine wpAnyL_one (i := 18) (by kernel_rfl) rfl (fun K hK => ?_)
        obtain ⟨⟨_, _, _, _, _⟩, ff0, ff1, ff2, ff3, ff4⟩ := five_cells hzwa1l2z
        have hzl : zb < wa1l2z.heap.size := (Array.getElem?_eq_some_iff.1 hzwa1l2z).1
        go_simp
        refine hK.out _ _ (fun h => absurd rfl h) ?_
        clear hK K
        try simp only [Act.put, sa1, sa2, sa3]
        refine wpAnyL_done (by kernel_rfl) ?_ _
        refine NoPanic.normal ?_
        obtain ⟨F1, F2, F3⟩ := turns_fin (l1 := l) (l2 := [U]) (vs1 := vs) (vs2 := [trv tk tt tn (.slice a1 n1 c1) (.slice a2 n2 c2)]) (v := .slice awa1l2 (l.length + 1) cwa1l2) (w := wa1l2z) (zb := zb) Gwa1l2z rowwa1l2z (hP.out wa1l2z Gwa1l2z).2.1 (hP.out wa1l2z Gwa1l2z).2.2 (fun z hz => hz.1) hzwa1l2z hnzwa1l2z hkzb
        obtain ⟨wF, hwF⟩ : ∃ wF, set5 wa1l2z zb (.int .i64 18) (.string e0) (.int .i64 0) nl (.slice awa1l2 (l.length + 1) cwa1l2) = wF := ⟨_, rfl⟩
        rw [hwF] at F1 F2 F3
        rw [show ((((wa1l2z.setCell ⟨zb, 0, none⟩ (.int .i64 18)).setCell ⟨zb, 1, none⟩ (.string e0)).setCell ⟨zb, 2, none⟩ (.int .i64 0)).setCell ⟨zb, 3, none⟩ nl).setCell ⟨zb, 4, none⟩ (.slice awa1l2 (l.length + 1) cwa1l2) = wF from hwF]
        clear hwF
        have GF : Gr (fun _ => False) W wF := G8.trans' F1 (fun k hk e => by have := G8.size; omega)
        have hzF := (Array.getElem?_eq_some_iff.1 F3).1
        have hC : Hid (∀ w, Gr (fun _ => False) wF w → Calls Tryz.prog 11 #[trv 18 e0 0 nl (.slice awa1l2 (l.length + 1) cwa1l2)] w fun e w' => e = .returned (.int .i64 cA) ∧ Gr (fun _ => False) w w') := fun w gw => by
         have h := hck.out w (GF.trans gw) _ _ (F2.gen.turn (A' := fun z => z < w.heap.size) (fun z hz hl => ⟨Nat.lt_of_lt_of_le hl gw.size, gw.block z hl (fun e => e)⟩)) hszA.out
         rw [← hca.out] at h
         exact h
        have hF3 := Lib.hid F3
        obtain ⟨⟨t0, t1, t2, t3, t4⟩, _⟩ := five_cells F3
        clear F1 F2 F3 TS TSb
        rcases hcU.out with e | e
        ·
         have q1 : (cU == 0) = true := by rw [e]; rfl
         have hCw := hC.out wF (Gr.refl _ _)
         clear e
         go_wp2_with fail
         refine hCw.mono ?_
         rintro x w9 ⟨rfl, g9⟩
         have Z9 := g9.keep hF3.out (fun e => e)
         have hzw9 := (Array.getElem?_eq_some_iff.1 Z9).1
         clear t0 t1 t2 t3 t4
         obtain ⟨⟨t0, t1, t2, t3, t4⟩, _⟩ := five_cells Z9
         rcases hcA.out with e' | e'
         · have q3 : (cA == 171) = true := by rw [e']; rfl
           clear e'
           go_wp2_with fail
           go_ret
           exact ⟨rfl, GF.trans g9⟩
         · have q3 : (cA == 171) = false := by rw [e']; rfl
           have q4 : (cA == 170) = true := by rw [e']; rfl
           have hCw := hC.out w9 g9
           clear e'
           go_wp2_with fail
           refine hCw.mono ?_
           rintro x w10 ⟨rfl, g10⟩
           go_wp2_with fail
           go_ret
           exact ⟨rfl, (GF.trans g9).trans g10⟩
        ·
         have q1 : (cU == 0) = false := by rw [e]; rfl
         have q2 : (cU == 170) = true := by rw [e]; rfl
         have hCw := hC.out wF (Gr.refl _ _)
         clear e
         go_wp2_with fail
         refine hCw.mono ?_
         rintro x w9 ⟨rfl, g9⟩
         have Z9 := g9.keep hF3.out (fun e => e)
         have hzw9 := (Array.getElem?_eq_some_iff.1 Z9).1
         clear t0 t1 t2 t3 t4
         obtain ⟨⟨t0, t1, t2, t3, t4⟩, _⟩ := five_cells Z9
         rcases hcA.out with e' | e'
         · have q3 : (cA == 171) = true := by rw [e']; rfl
           clear e'
           go_wp2_with fail
           go_ret
           exact ⟨rfl, GF.trans g9⟩
         · have q3 : (cA == 171) = false := by rw [e']; rfl
           have q4 : (cA == 170) = true := by rw [e']; rfl
           have hCw := hC.out w9 g9
           clear e'
           go_wp2_with fail
           refine hCw.mono ?_
           rintro x w10 ⟨rfl, g10⟩
           go_wp2_with fail
           go_ret
           exact ⟨rfl, (GF.trans g9).trans g10⟩
      ·
       go_simp
       have gz := Gr.alloc wa1l (.cells zc 25) (fun _ => False)
       have Gwa1lz := Gwa1l.trans (gz.any _)
       have hzwa1lz := heap_alloc_new wa1l (.cells zc 25)
       have TS : SM tb g i (.slice (some ⟨g, 0, none⟩) l.length lc) tk tt tn (.slice a1 n1 c1) (.slice a2 n2 c2) (wa1l.alloc (.cells zc 25)) := TSb.gr Gwa1lz (by omega) (by omega)
       obtain ⟨zb, hbzb⟩ : ∃ u, wa1l.heap.size = u := ⟨_, rfl⟩
       have hkzb : w8.heap.size ≤ zb := by have := Gwa1l.size; omega
       have rowwa1lz := ownsRow_gr rowwa1l gz (fun _ _ e => e)
       have hnzwa1lz : (.slice awa1 l.length cwa1 : Value).ownBlock ≠ some zb := fun e => by have := (ownsRow_lt rowwa1l zb e).2; omega
       have hlwa1lz := gz.keep hlwa1l (fun e => e)
       have hnlwa1lz := hnlwa1l
       refine hK.out _ _ (fun _ => TS) ?_
       clear hK K gz
       rw [hbzb] at hzwa1lz ⊢
       generalize wa1l.alloc (.cells zc 25) = wa1lz at *
       try simp only [Act.put, sa1, sa2, sa3]
       refine wpAnyL_one (i := 15) (by kernel_rfl) rfl (fun K hK => ?_)
       refine step_row i0 hi0 hzz' hz1 hz2 rfl _ _ rfl w8.heap.size (.slice awa1 l.length cwa1) l.length 1 (vs.flatMap cellsOf) ⟨lb, 0, none⟩ 1 [.int .i64 tk, .string tt, .int .i64 tn, .slice a1 n1 c1, .slice a2 n2 c2] rfl rfl rowwa1lz rfl (lit_cells hlwa1lz) (by simp [Value.oneCell']) (by omega) Gwa1lz.size ?_
       intro vwa1lz2 wa1lz2 rowwa1lz2 gg keep
       have Gwa1lz2 := Gwa1lz.trans gg
       have TS : SM tb g i (.slice (some ⟨g, 0, none⟩) l.length lc) tk tt tn (.slice a1 n1 c1) (.slice a2 n2 c2) wa1lz2 := TSb.gr Gwa1lz2 (by omega) (by omega)
       obtain ⟨hlwa1lz2, hnlwa1lz2⟩ := keep lb _ hlwa1lz hnlwa1lz
       obtain ⟨hzwa1lz2, hnzwa1lz2⟩ := keep zb _ hzwa1lz hnzwa1lz
       obtain ⟨awa1lz2, cwa1lz2, rfl⟩ := ownsRow_sv rowwa1lz2
       refine hK.out _ _ (fun _ => TS) ?_
       clear hK K gg keep
       try simp only [Act.put, sa1, sa2, sa3]
       refine wpAnyL_one (i := 16) (by kernel_rfl) rfl (fun K hK => ?_)
       go_simp
       refine hK.out _ _ (fun _ => TS) ?_
       clear hK K
       try simp only [Act.put, sa1, sa2, sa3]
       refine wpAnyL_one (i := 18) (by kernel_rfl) rfl (fun K hK => ?_)
       obtain ⟨⟨_, _, _, _, _⟩, ff0, ff1, ff2, ff3, ff4⟩ := five_cells hzwa1lz2
       have hzl : zb < wa1lz2.heap.size := (Array.getElem?_eq_some_iff.1 hzwa1lz2).1
       go_simp
       refine hK.out _ _ (fun h => absurd rfl h) ?_
       clear hK K
       try simp only [Act.put, sa1, sa2, sa3]
       refine wpAnyL_done (by kernel_rfl) ?_ _
       refine NoPanic.normal ?_
       obtain ⟨F1, F2, F3⟩ := turns_fin (l1 := l) (l2 := [U]) (vs1 := vs) (vs2 := [trv tk tt tn (.slice a1 n1 c1) (.slice a2 n2 c2)]) (v := .slice awa1lz2 (l.length + 1) cwa1lz2) (w := wa1lz2) (zb := zb) Gwa1lz2 rowwa1lz2 (hP.out wa1lz2 Gwa1lz2).2.1 (hP.out wa1lz2 Gwa1lz2).2.2 (fun z hz => hz.1) hzwa1lz2 hnzwa1lz2 hkzb
       obtain ⟨wF, hwF⟩ : ∃ wF, set5 wa1lz2 zb (.int .i64 18) (.string e0) (.int .i64 0) nl (.slice awa1lz2 (l.length + 1) cwa1lz2) = wF := ⟨_, rfl⟩
       rw [hwF] at F1 F2 F3
       rw [show ((((wa1lz2.setCell ⟨zb, 0, none⟩ (.int .i64 18)).setCell ⟨zb, 1, none⟩ (.string e0)).setCell ⟨zb, 2, none⟩ (.int .i64 0)).setCell ⟨zb, 3, none⟩ nl).setCell ⟨zb, 4, none⟩ (.slice awa1lz2 (l.length + 1) cwa1lz2) = wF from hwF]
       clear hwF
       have GF : Gr (fun _ => False) W wF := G8.trans' F1 (fun k hk e => by have := G8.size; omega)
       have hzF := (Array.getElem?_eq_some_iff.1 F3).1
       have hC : Hid (∀ w, Gr (fun _ => False) wF w → Calls Tryz.prog 11 #[trv 18 e0 0 nl (.slice awa1lz2 (l.length + 1) cwa1lz2)] w fun e w' => e = .returned (.int .i64 cA) ∧ Gr (fun _ => False) w w') := fun w gw => by
        have h := hck.out w (GF.trans gw) _ _ (F2.gen.turn (A' := fun z => z < w.heap.size) (fun z hz hl => ⟨Nat.lt_of_lt_of_le hl gw.size, gw.block z hl (fun e => e)⟩)) hszA.out
        rw [← hca.out] at h
        exact h
       have hF3 := Lib.hid F3
       obtain ⟨⟨t0, t1, t2, t3, t4⟩, _⟩ := five_cells F3
       clear F1 F2 F3 TS TSb
       rcases hcU.out with e | e
       ·
        have q1 : (cU == 0) = true := by rw [e]; rfl
        have hCw := hC.out wF (Gr.refl _ _)
        clear e
        go_wp2_with fail
        refine hCw.mono ?_
        rintro x w9 ⟨rfl, g9⟩
        have Z9 := g9.keep hF3.out (fun e => e)
        have hzw9 := (Array.getElem?_eq_some_iff.1 Z9).1
        clear t0 t1 t2 t3 t4
        obtain ⟨⟨t0, t1, t2, t3, t4⟩, _⟩ := five_cells Z9
        rcases hcA.out with e' | e'
        · have q3 : (cA == 171) = true := by rw [e']; rfl
          clear e'
          go_wp2_with fail
          go_ret
          exact ⟨rfl, GF.trans g9⟩
        · have q3 : (cA == 171) = false := by rw [e']; rfl
          have q4 : (cA == 170) = true := by rw [e']; rfl
          have hCw := hC.out w9 g9
          clear e'
          go_wp2_with fail
          refine hCw.mono ?_
          rintro x w10 ⟨rfl, g10⟩
          go_wp2_with fail
          go_ret
          exact ⟨rfl, (GF.trans g9).trans g10⟩
       ·
        have q1 : (cU == 0) = false := by rw [e]; rfl
        have q2 : (cU == 170) = true := by rw [e]; rfl
        have hCw := hC.out wF (Gr.refl _ _)
        clear e
        go_wp2_with fail
        refine hCw.mono ?_
        rintro x w9 ⟨rfl, g9⟩
        have Z9 := g9.keep hF3.out (fun e => e)
        have hzw9 := (Array.getElem?_eq_some_iff.1 Z9).1
        clear t0 t1 t2 t3 t4
        obtain ⟨⟨t0, t1, t2, t3, t4⟩, _⟩ := five_cells Z9
        rcases hcA.out with e' | e'
        · have q3 : (cA == 171) = true := by rw [e']; rfl
          clear e'
          go_wp2_with fail
          go_ret
          exact ⟨rfl, GF.trans g9⟩
        · have q3 : (cA == 171) = false := by rw [e']; rfl
          have q4 : (cA == 170) = true := by rw [e']; rfl
          have hCw := hC.out w9 g9
          clear e'
          go_wp2_with fail
          refine hCw.mono ?_
          rintro x w10 ⟨rfl, g10⟩
          go_wp2_with fail
          go_ret
          exact ⟨rfl, (GF.trans g9).trans g10⟩
     ·
      go_simp
      have gz := Gr.alloc wa1 (.cells zc 25) (fun _ => False)
      have Gwa1z := Gwa1.trans (gz.any _)
      have hzwa1z := heap_alloc_new wa1 (.cells zc 25)
      have TS : SM tb g i (.slice (some ⟨g, 0, none⟩) l.length lc) tk tt tn (.slice a1 n1 c1) (.slice a2 n2 c2) (wa1.alloc (.cells zc 25)) := TSb.gr Gwa1z (by omega) (by omega)
      obtain ⟨zb, hbzb⟩ : ∃ u, wa1.heap.size = u := ⟨_, rfl⟩
      have hkzb : w8.heap.size ≤ zb := by have := Gwa1.size; omega
      have rowwa1z := ownsRow_gr rowwa1 gz (fun _ _ e => e)
      have hnzwa1z : (.slice awa1 l.length cwa1 : Value).ownBlock ≠ some zb := fun e => by have := (ownsRow_lt rowwa1 zb e).2; omega
      refine hK.out _ _ (fun _ => TS) ?_
      clear hK K gz
      rw [hbzb] at hzwa1z ⊢
      generalize wa1.alloc (.cells zc 25) = wa1z at *
      try simp only [Act.put, sa1, sa2, sa3]
      refine wpAnyL_one (i := 14) (by kernel_rfl) rfl (fun K hK => ?_)
      go_simp
      have gz := Gr.alloc wa1z (.cells #[.int .i64 tk, .string tt, .int .i64 tn, .slice a1 n1 c1, .slice a2 n2 c2] 25) (fun _ => False)
      have Gwa1zl := Gwa1z.trans (gz.any _)
      have hlwa1zl := heap_alloc_new wa1z (.cells #[.int .i64 tk, .string tt, .int .i64 tn, .slice a1 n1 c1, .slice a2 n2 c2] 25)
      have TS : SM tb g i (.slice (some ⟨g, 0, none⟩) l.length lc) tk tt tn (.slice a1 n1 c1) (.slice a2 n2 c2) (wa1z.alloc (.cells #[.int .i64 tk, .string tt, .int .i64 tn, .slice a1 n1 c1, .slice a2 n2 c2] 25)) := TSb.gr Gwa1zl (by omega) (by omega)
      obtain ⟨lb, hblb⟩ : ∃ u, wa1z.heap.size = u := ⟨_, rfl⟩
      have hklb : w8.heap.size ≤ lb := by have := Gwa1z.size; omega
      have rowwa1zl := ownsRow_gr rowwa1z gz (fun _ _ e => e)
      have hnlwa1zl : (.slice awa1 l.length cwa1 : Value).ownBlock ≠ some lb := fun e => by have := (ownsRow_lt rowwa1z lb e).2; omega
      have hzwa1zl := gz.keep hzwa1z (fun e => e)
      have hnzwa1zl := hnzwa1z
      refine hK.out _ _ (fun _ => TS) ?_
      clear hK K gz
      rw [hblb] at hlwa1zl ⊢
      generalize wa1z.alloc (.cells #[.int .i64 tk, .string tt, .int .i64 tn, .slice a1 n1 c1, .slice a2 n2 c2] 25) = wa1zl at *
      try simp only [Act.put, sa1, sa2, sa3]
      refine wpAnyL_one (i := 15) (by kernel_rfl) rfl (fun K hK => ?_)
      refine step_row i0 hi0 hzz' hz1 hz2 rfl _ _ rfl w8.heap.size (.slice awa1 l.length cwa1) l.length 1 (vs.flatMap cellsOf) ⟨lb, 0, none⟩ 1 [.int .i64 tk, .string tt, .int .i64 tn, .slice a1 n1 c1, .slice a2 n2 c2] rfl rfl rowwa1zl rfl (lit_cells hlwa1zl) (by simp [Value.oneCell']) (by omega) Gwa1zl.size ?_
      intro vwa1zl2 wa1zl2 rowwa1zl2 gg keep
      have Gwa1zl2 := Gwa1zl.trans gg
      have TS : SM tb g i (.slice (some ⟨g, 0, none⟩) l.length lc) tk tt tn (.slice a1 n1 c1) (.slice a2 n2 c2) wa1zl2 := TSb.gr Gwa1zl2 (by omega) (by omega)
      obtain ⟨hzwa1zl2, hnzwa1zl2⟩ := keep zb _ hzwa1zl hnzwa1zl
      obtain ⟨hlwa1zl2, hnlwa1zl2⟩ := keep lb _ hlwa1zl hnlwa1zl
      obtain ⟨awa1zl2, cwa1zl2, rfl⟩ := ownsRow_sv rowwa1zl2
      refine hK.out _ _ (fun _ => TS) ?_
      clear hK K gg keep
      try simp only [Act.put, sa1, sa2, sa3]
      refine wpAnyL_one (i := 16) (by kernel_rfl) rfl (fun K hK => ?_)
      go_simp
      refine hK.out _ _ (fun _ => TS) ?_
      clear hK K
      try simp only [Act.put, sa1, sa2, sa3]
      refine wpAnyL_one (i := 18) (by kernel_rfl) rfl (fun K hK => ?_)
      obtain ⟨⟨_, _, _, _, _⟩, ff0, ff1, ff2, ff3, ff4⟩ := five_cells hzwa1zl2
      have hzl : zb < wa1zl2.heap.size := (Array.getElem?_eq_some_iff.1 hzwa1zl2).1
      go_simp
      refine hK.out _ _ (fun h => absurd rfl h) ?_
      clear hK K
      try simp only [Act.put, sa1, sa2, sa3]
      refine wpAnyL_done (by kernel_rfl) ?_ _
      refine NoPanic.normal ?_
      obtain ⟨F1, F2, F3⟩ := turns_fin (l1 := l) (l2 := [U]) (vs1 := vs) (vs2 := [trv tk tt tn (.slice a1 n1 c1) (.slice a2 n2 c2)]) (v := .slice awa1zl2 (l.length + 1) cwa1zl2) (w := wa1zl2) (zb := zb) Gwa1zl2 rowwa1zl2 (hP.out wa1zl2 Gwa1zl2).2.1 (hP.out wa1zl2 Gwa1zl2).2.2 (fun z hz => hz.1) hzwa1zl2 hnzwa1zl2 hkzb
      obtain ⟨wF, hwF⟩ : ∃ wF, set5 wa1zl2 zb (.int .i64 18) (.string e0) (.int .i64 0) nl (.slice awa1zl2 (l.length + 1) cwa1zl2) = wF := ⟨_, rfl⟩
      rw [hwF] at F1 F2 F3
      rw [show ((((wa1zl2.setCell ⟨zb, 0, none⟩ (.int .i64 18)).setCell ⟨zb, 1, none⟩ (.string e0)).setCell ⟨zb, 2, none⟩ (.int .i64 0)).setCell ⟨zb, 3, none⟩ nl).setCell ⟨zb, 4, none⟩ (.slice awa1zl2 (l.length + 1) cwa1zl2) = wF from hwF]
      clear hwF
      have GF : Gr (fun _ => False) W wF := G8.trans' F1 (fun k hk e => by have := G8.size; omega)
      have hzF := (Array.getElem?_eq_some_iff.1 F3).1
      have hC : Hid (∀ w, Gr (fun _ => False) wF w → Calls Tryz.prog 11 #[trv 18 e0 0 nl (.slice awa1zl2 (l.length + 1) cwa1zl2)] w fun e w' => e = .returned (.int .i64 cA) ∧ Gr (fun _ => False) w w') := fun w gw => by
       have h := hck.out w (GF.trans gw) _ _ (F2.gen.turn (A' := fun z => z < w.heap.size) (fun z hz hl => ⟨Nat.lt_of_lt_of_le hl gw.size, gw.block z hl (fun e => e)⟩)) hszA.out
       rw [← hca.out] at h
       exact h
      have hF3 := Lib.hid F3
      obtain ⟨⟨t0, t1, t2, t3, t4⟩, _⟩ := five_cells F3
      clear F1 F2 F3 TS TSb
      rcases hcU.out with e | e
      ·
       have q1 : (cU == 0) = true := by rw [e]; rfl
       have hCw := hC.out wF (Gr.refl _ _)
       clear e
       go_wp2_with fail
       refine hCw.mono ?_
       rintro x w9 ⟨rfl, g9⟩
       have Z9 := g9.keep hF3.out (fun e => e)
       have hzw9 := (Array.getElem?_eq_some_iff.1 Z9).1
       clear t0 t1 t2 t3 t4
       obtain ⟨⟨t0, t1, t2, t3, t4⟩, _⟩ := five_cells Z9
       rcases hcA.out with e' | e'
       · have q3 : (cA == 171) = true := by rw [e']; rfl
         clear e'
         go_wp2_with fail
         go_ret
         exact ⟨rfl, GF.trans g9⟩
       · have q3 : (cA == 171) = false := by rw [e']; rfl
         have q4 : (cA == 170) = true := by rw [e']; rfl
         have hCw := hC.out w9 g9
         clear e'
         go_wp2_with fail
         refine hCw.mono ?_
         rintro x w10 ⟨rfl, g10⟩
         go_wp2_with fail
         go_ret
         exact ⟨rfl, (GF.trans g9).trans g10⟩
      ·
       have q1 : (cU == 0) = false := by rw [e]; rfl
       have q2 : (cU == 170) = true := by rw [e]; rfl
       have hCw := hC.out wF (Gr.refl _ _)
       clear e
       go_wp2_with fail
       refine hCw.mono ?_
       rintro x w9 ⟨rfl, g9⟩
       have Z9 := g9.keep hF3.out (fun e => e)
       have hzw9 := (Array.getElem?_eq_some_iff.1 Z9).1
       clear t0 t1 t2 t3 t4
       obtain ⟨⟨t0, t1, t2, t3, t4⟩, _⟩ := five_cells Z9
       rcases hcA.out with e' | e'
       · have q3 : (cA == 171) = true := by rw [e']; rfl
         clear e'
         go_wp2_with fail
         go_ret
         exact ⟨rfl, GF.trans g9⟩
       · have q3 : (cA == 171) = false := by rw [e']; rfl
         have q4 : (cA == 170) = true := by rw [e']; rfl
         have hCw := hC.out w9 g9
         clear e'
         go_wp2_with fail
         refine hCw.mono ?_
         rintro x w10 ⟨rfl, g10⟩
         go_wp2_with fail
         go_ret
         exact ⟨rfl, (GF.trans g9).trans g10⟩
    ·
     go_simp
     have gz := Gr.alloc wa (.cells #[.int .i64 tk, .string tt, .int .i64 tn, .slice a1 n1 c1, .slice a2 n2 c2] 25) (fun _ => False)
     have Gwal := Gwa.trans (gz.any _)
     have hlwal := heap_alloc_new wa (.cells #[.int .i64 tk, .string tt, .int .i64 tn, .slice a1 n1 c1, .slice a2 n2 c2] 25)
     have TS : SM tb g i (.slice (some ⟨g, 0, none⟩) l.length lc) tk tt tn (.slice a1 n1 c1) (.slice a2 n2 c2) (wa.alloc (.cells #[.int .i64 tk, .string tt, .int .i64 tn, .slice a1 n1 c1, .slice a2 n2 c2] 25)) := TSb.gr Gwal (by omega) (by omega)
     obtain ⟨lb, hblb⟩ : ∃ u, wa.heap.size = u := ⟨_, rfl⟩
     have hklb : w8.heap.size ≤ lb := by have := Gwa.size; omega
     have rowwal := ownsRow_gr rowwa gz (fun _ _ e => e)
     have hnlwal : (.slice (some ⟨gbwa, 0, none⟩) 0 0 : Value).ownBlock ≠ some lb := fun e => by have := (ownsRow_lt rowwa lb e).2; omega
     refine hK.out _ _ (fun _ => TS) ?_
     clear hK K gz
     rw [hblb] at hlwal ⊢
     generalize wa.alloc (.cells #[.int .i64 tk, .string tt, .int .i64 tn, .slice a1 n1 c1, .slice a2 n2 c2] 25) = wal at *
     try simp only [Act.put, sa1, sa2, sa3]
     refine wpAnyL_two (i := 3) (j := 17) (by kernel_rfl) rfl rfl (fun K hK => ?_) (fun K hK => ?_)
     ·
      refine step_row i0 hi0 hzz' hz1 hz2 rfl _ _ rfl w8.heap.size (.slice (some ⟨gbwa, 0, none⟩) 0 0) 0 l.length [] ⟨g, 0, none⟩ lc (vs.flatMap cellsOf) rfl rfl rowwal hvl.out (hP.out wal Gwal).1 hv1.out (by omega) Gwal.size ?_
      intro vwal1 wal1 rowwal1 gg keep
      rw [Nat.zero_add, List.nil_append] at rowwal1
      have Gwal1 := Gwal.trans gg
      have TS : SM tb g i (.slice (some ⟨g, 0, none⟩) l.length lc) tk tt tn (.slice a1 n1 c1) (.slice a2 n2 c2) wal1 := TSb.gr Gwal1 (by omega) (by omega)
      obtain ⟨hlwal1, hnlwal1⟩ := keep lb _ hlwal hnlwal
      obtain ⟨awal1, cwal1, rfl⟩ := ownsRow_sv rowwal1
      refine hK.out _ _ (fun _ => TS) ?_
      clear hK K gg keep
      try simp only [Act.put, sa1, sa2, sa3]
      refine wpAnyL_two (i := 15) (j := 17) (by kernel_rfl) rfl rfl (fun K hK => ?_) (fun K hK => ?_)
      ·
       refine step_row i0 hi0 hzz' hz1 hz2 rfl _ _ rfl w8.heap.size (.slice awal1 l.length cwal1) l.length 1 (vs.flatMap cellsOf) ⟨lb, 0, none⟩ 1 [.int .i64 tk, .string tt, .int .i64 tn, .slice a1 n1 c1, .slice a2 n2 c2] rfl rfl rowwal1 rfl (lit_cells hlwal1) (by simp [Value.oneCell']) (by omega) Gwal1.size ?_
       intro vwal12 wal12 rowwal12 gg keep
       have Gwal12 := Gwal1.trans gg
       have TS : SM tb g i (.slice (some ⟨g, 0, none⟩) l.length lc) tk tt tn (.slice a1 n1 c1) (.slice a2 n2 c2) wal12 := TSb.gr Gwal12 (by omega) (by omega)
       obtain ⟨hlwal12, hnlwal12⟩ := keep lb _ hlwal1 hnlwal1
       obtain ⟨awal12, cwal12, rfl⟩ := ownsRow_sv rowwal12
       refine hK.out _ _ (fun _ => TS) ?_
       clear hK K gg keep
       try simp only [Act.put, sa1, sa2, sa3]
       refine wpAnyL_two (i := 16) (j := 17) (by kernel_rfl) rfl rfl (fun K hK => ?_) (fun K hK => ?_)
       ·
        go_simp
        refine hK.out _ _ (fun _ => TS) ?_
        clear hK K
        try simp only [Act.put, sa1, sa2, sa3]
        refine wpAnyL_one (i := 17) (by kernel_rfl) rfl (fun K hK => ?_)
        go_simp
        have gz := Gr.alloc wal12 (.cells zc 25) (fun _ => False)
        have Gwal12z := Gwal12.trans (gz.any _)
        have hzwal12z := heap_alloc_new wal12 (.cells zc 25)
        have TS : SM tb g i (.slice (some ⟨g, 0, none⟩) l.length lc) tk tt tn (.slice a1 n1 c1) (.slice a2 n2 c2) (wal12.alloc (.cells zc 25)) := TSb.gr Gwal12z (by omega) (by omega)
        obtain ⟨zb, hbzb⟩ : ∃ u, wal12.heap.size = u := ⟨_, rfl⟩
        have hkzb : w8.heap.size ≤ zb := by have := Gwal12.size; omega
        have rowwal12z := ownsRow_gr rowwal12 gz (fun _ _ e => e)
        have hnzwal12z : (.slice awal12 (l.length + 1) cwal12 : Value).ownBlock ≠ some zb := fun e => by have := (ownsRow_lt rowwal12 zb e).2; omega
        have hlwal12z := gz.keep hlwal12 (fun e => e)
        have hnlwal12z := hnlwal12
        refine hK.out _ _ (fun _ => TS) ?_
        clear hK K gz
        rw [hbzb] at hzwal12z ⊢
        generalize wal12.alloc (.cells zc 25) = wal12z at *
        try simp only [Act.put, sa1, sa2, sa3]
        refine wpAnyL_one (i := 18) (by kernel_rfl) rfl (fun K hK => ?_)
        obtain ⟨⟨_, _, _, _, _⟩, ff0, ff1, ff2, ff3, ff4⟩ := five_cells hzwal12z
        have hzl : zb < wal12z.heap.size := (Array.getElem?_eq_some_iff.1 hzwal12z).1
        go_simp
        refine hK.out _ _ (fun h => absurd rfl h) ?_
        clear hK K
        try simp only [Act.put, sa1, sa2, sa3]
        refine wpAnyL_done (by kernel_rfl) ?_ _
        refine NoPanic.normal ?_
        obtain ⟨F1, F2, F3⟩ := turns_fin (l1 := l) (l2 := [U]) (vs1 := vs) (vs2 := [trv tk tt tn (.slice a1 n1 c1) (.slice a2 n2 c2)]) (v := .slice awal12 (l.length + 1) cwal12) (w := wal12z) (zb := zb) Gwal12z rowwal12z (hP.out wal12z Gwal12z).2.1 (hP.out wal12z Gwal12z).2.2 (fun z hz => hz.1) hzwal12z hnzwal12z hkzb
        obtain ⟨wF, hwF⟩ : ∃ wF, set5 wal12z zb (.int .i64 18) (.string e0) (.int .i64 0) nl (.slice awal12 (l.length + 1) cwal12) = wF := ⟨_, rfl⟩
        rw [hwF] at F1 F2 F3
        rw [show ((((wal12z.setCell ⟨zb, 0, none⟩ (.int .i64 18)).setCell ⟨zb, 1, none⟩ (.string e0)).setCell ⟨zb, 2, none⟩ (.int .i64 0)).setCell ⟨zb, 3, none⟩ nl).setCell ⟨zb, 4, none⟩ (.slice awal12 (l.length + 1) cwal12) = wF from hwF]
        clear hwF
        have GF : Gr (fun _ => False) W wF := G8.trans' F1 (fun k hk e => by have := G8.size; omega)
        have hzF := (Array.getElem?_eq_some_iff.1 F3).1
        have hC : Hid (∀ w, Gr (fun _ => False) wF w → Calls Tryz.prog 11 #[trv 18 e0 0 nl (.slice awal12 (l.length + 1) cwal12)] w fun e w' => e = .returned (.int .i64 cA) ∧ Gr (fun _ => False) w w') := fun w gw => by
         have h := hck.out w (GF.trans gw) _ _ (F2.gen.turn (A' := fun z => z < w.heap.size) (fun z hz hl => ⟨Nat.lt_of_lt_of_le hl gw.size, gw.block z hl (fun e => e)⟩)) hszA.out
         rw [← hca.out] at h
         exact h
        have hF3 := Lib.hid F3
        obtain ⟨⟨t0, t1, t2, t3, t4⟩, _⟩ := five_cells F3
        clear F1 F2 F3 TS TSb
        rcases hcU.out with e | e
        ·
         have q1 : (cU == 0) = true := by rw [e]; rfl
         have hCw := hC.out wF (Gr.refl _ _)
         clear e
         go_wp2_with fail
         refine hCw.mono ?_
         rintro x w9 ⟨rfl, g9⟩
         have Z9 := g9.keep hF3.out (fun e => e)
         have hzw9 := (Array.getElem?_eq_some_iff.1 Z9).1
         clear t0 t1 t2 t3 t4
         obtain ⟨⟨t0, t1, t2, t3, t4⟩, _⟩ := five_cells Z9
         rcases hcA.out with e' | e'
         · have q3 : (cA == 171) = true := by rw [e']; rfl
           clear e'
           go_wp2_with fail
           go_ret
           exact ⟨rfl, GF.trans g9⟩
         · have q3 : (cA == 171) = false := by rw [e']; rfl
           have q4 : (cA == 170) = true := by rw [e']; rfl
           have hCw := hC.out w9 g9
           clear e'
           go_wp2_with fail
           refine hCw.mono ?_
           rintro x w10 ⟨rfl, g10⟩
           go_wp2_with fail
           go_ret
           exact ⟨rfl, (GF.trans g9).trans g10⟩
        ·
         have q1 : (cU == 0) = false := by rw [e]; rfl
         have q2 : (cU == 170) = true := by rw [e]; rfl
         have hCw := hC.out wF (Gr.refl _ _)
         clear e
         go_wp2_with fail
         refine hCw.mono ?_
         rintro x w9 ⟨rfl, g9⟩
         have Z9 := g9.keep hF3.out (fun e => e)
         have hzw9 := (Array.getElem?_eq_some_iff.1 Z9).1
         clear t0 t1 t2 t3 t4
         obtain ⟨⟨t0, t1, t2, t3, t4⟩, _⟩ := five_cells Z9
         rcases hcA.out with e' | e'
         · have q3 : (cA == 171) = true := by rw [e']; rfl
           clear e'
           go_wp2_with fail
           go_ret
           exact ⟨rfl, GF.trans g9⟩
         · have q3 : (cA == 171) = false := by rw [e']; rfl
           have q4 : (cA == 170) = true := by rw [e']; rfl
           have hCw := hC.out w9 g9
           clear e'
           go_wp2_with fail
           refine hCw.mono ?_
           rintro x w10 ⟨rfl, g10⟩
           go_wp2_with fail
           go_ret
           exact ⟨rfl, (GF.trans g9).trans g10⟩
       ·
        go_simp
        have gz := Gr.alloc wal12 (.cells zc 25) (fun _ => False)
        have Gwal12z := Gwal12.trans (gz.any _)
        have hzwal12z := heap_alloc_new wal12 (.cells zc 25)
        have TS : SM tb g i (.slice (some ⟨g, 0, none⟩) l.length lc) tk tt tn (.slice a1 n1 c1) (.slice a2 n2 c2) (wal12.alloc (.cells zc 25)) := TSb.gr Gwal12z (by omega) (by omega)
        obtain ⟨zb, hbzb⟩ : ∃ u, wal12.heap.size = u := ⟨_, rfl⟩
        have hkzb : w8.heap.size ≤ zb := by have := Gwal12.size; omega
        have rowwal12z := ownsRow_gr rowwal12 gz (fun _ _ e => e)
        have hnzwal12z : (.slice awal12 (l.length + 1) cwal12 : Value).ownBlock ≠ some zb := fun e => by have := (ownsRow_lt rowwal12 zb e).2; omega
        have hlwal12z := gz.keep hlwal12 (fun e => e)
        have hnlwal12z := hnlwal12
        refine hK.out _ _ (fun _ => TS) ?_
        clear hK K gz
        rw [hbzb] at hzwal12z ⊢
        generalize wal12.alloc (.cells zc 25) = wal12z at *
        try simp only [Act.put, sa1, sa2, sa3]
        refine wpAnyL_one (i := 16) (by kernel_rfl) rfl (fun K hK => ?_)
        go_simp
        refine hK.out _ _ (fun _ => TS) ?_
        clear hK K
        try simp only [Act.put, sa1, sa2, sa3]
        refine wpAnyL_one (i := 18) (by kernel_rfl) rfl (fun K hK => ?_)
        obtain ⟨⟨_, _, _, _, _⟩, ff0, ff1, ff2, ff3, ff4⟩ := five_cells hzwal12z
        have hzl : zb < wal12z.heap.size := (Array.getElem?_eq_some_iff.1 hzwal12z).1
        go_simp
        refine hK.out _ _ (fun h => absurd rfl h) ?_
        clear hK K
        try simp only [Act.put, sa1, sa2, sa3]
        refine wpAnyL_done (by kernel_rfl) ?_ _
        refine NoPanic.normal ?_
        obtain ⟨F1, F2, F3⟩ := turns_fin (l1 := l) (l2 := [U]) (vs1 := vs) (vs2 := [trv tk tt tn (.slice a1 n1 c1) (.slice a2 n2 c2)]) (v := .slice awal12 (l.length + 1) cwal12) (w := wal12z) (zb := zb) Gwal12z rowwal12z (hP.out wal12z Gwal12z).2.1 (hP.out wal12z Gwal12z).2.2 (fun z hz => hz.1) hzwal12z hnzwal12z hkzb
        obtain ⟨wF, hwF⟩ : ∃ wF, set5 wal12z zb (.int .i64 18) (.string e0) (.int .i64 0) nl (.slice awal12 (l.length + 1) cwal12) = wF := ⟨_, rfl⟩
        rw [hwF] at F1 F2 F3
        rw [show ((((wal12z.setCell ⟨zb, 0, none⟩ (.int .i64 18)).setCell ⟨zb, 1, none⟩ (.string e0)).setCell ⟨zb, 2, none⟩ (.int .i64 0)).setCell ⟨zb, 3, none⟩ nl).setCell ⟨zb, 4, none⟩ (.slice awal12 (l.length + 1) cwal12) = wF from hwF]
        clear hwF
        have GF : Gr (fun _ => False) W wF := G8.trans' F1 (fun k hk e => by have := G8.size; omega)
        have hzF := (Array.getElem?_eq_some_iff.1 F3).1
        have hC : Hid (∀ w, Gr (fun _ => False) wF w → Calls Tryz.prog 11 #[trv 18 e0 0 nl (.slice awal12 (l.length + 1) cwal12)] w fun e w' => e = .returned (.int .i64 cA) ∧ Gr (fun _ => False) w w') := fun w gw => by
         have h := hck.out w (GF.trans gw) _ _ (F2.gen.turn (A' := fun z => z < w.heap.size) (fun z hz hl => ⟨Nat.lt_of_lt_of_le hl gw.size, gw.block z hl (fun e => e)⟩)) hszA.out
         rw [← hca.out] at h
         exact h
        have hF3 := Lib.hid F3
        obtain ⟨⟨t0, t1, t2, t3, t4⟩, _⟩ := five_cells F3
        clear F1 F2 F3 TS TSb
        rcases hcU.out with e | e
        ·
         have q1 : (cU == 0) = true := by rw [e]; rfl
         have hCw := hC.out wF (Gr.refl _ _)
         clear e
         go_wp2_with fail
         refine hCw.mono ?_
         rintro x w9 ⟨rfl, g9⟩
         have Z9 := g9.keep hF3.out (fun e => e)
         have hzw9 := (Array.getElem?_eq_some_iff.1 Z9).1
         clear t0 t1 t2 t3 t4
         obtain ⟨⟨t0, t1, t2, t3, t4⟩, _⟩ := five_cells Z9
         rcases hcA.out with e' | e'
         · have q3 : (cA == 171) = true := by rw [e']; rfl
           clear e'
           go_wp2_with fail
           go_ret
           exact ⟨rfl, GF.trans g9⟩
         · have q3 : (cA == 171) = false := by rw [e']; rfl
           have q4 : (cA == 170) = true := by rw [e']; rfl
           have hCw := hC.out w9 g9
           clear e'
           go_wp2_with fail
           refine hCw.mono ?_
           rintro x w10 ⟨rfl, g10⟩
           go_wp2_with fail
           go_ret
           exact ⟨rfl, (GF.trans g9).trans g10⟩
        ·
         have q1 : (cU == 0) = false := by rw [e]; rfl
         have q2 : (cU == 170) = true := by rw [e]; rfl
         have hCw := hC.out wF (Gr.refl _ _)
         clear e
         go_wp2_with fail
         refine hCw.mono ?_
         rintro x w9 ⟨rfl, g9⟩
         have Z9 := g9.keep hF3.out (fun e => e)
         have hzw9 := (Array.getElem?_eq_some_iff.1 Z9).1
         clear t0 t1 t2 t3 t4
         obtain ⟨⟨t0, t1, t2, t3, t4⟩, _⟩ := five_cells Z9
         rcases hcA.out with e' | e'
         · have q3 : (cA == 171) = true := by rw [e']; rfl
           clear e'
           go_wp2_with fail
           go_ret
           exact ⟨rfl, GF.trans g9⟩
         · have q3 : (cA == 171) = false := by rw [e']; rfl
           have q4 : (cA == 170) = true := by rw [e']; rfl
           have hCw := hC.out w9 g9
           clear e'
           go_wp2_with fail
           refine hCw.mono ?_
           rintro x w10 ⟨rfl, g10⟩
           go_wp2_with fail
           go_ret
           exact ⟨rfl, (GF.trans g9).trans g10⟩
      ·
       go_simp
       have gz := Gr.alloc wal1 (.cells zc 25) (fun _ => False)
       have Gwal1z := Gwal1.trans (gz.any _)
       have hzwal1z := heap_alloc_new wal1 (.cells zc 25)
       have TS : SM tb g i (.slice (some ⟨g, 0, none⟩) l.length lc) tk tt tn (.slice a1 n1 c1) (.slice a2 n2 c2) (wal1.alloc (.cells zc 25)) := TSb.gr Gwal1z (by omega) (by omega)
       obtain ⟨zb, hbzb⟩ : ∃ u, wal1.heap.size = u := ⟨_, rfl⟩
       have hkzb : w8.heap.size ≤ zb := by have := Gwal1.size; omega
       have rowwal1z := ownsRow_gr rowwal1 gz (fun _ _ e => e)
       have hnzwal1z : (.slice awal1 l.length cwal1 : Value).ownBlock ≠ some zb := fun e => by have := (ownsRow_lt rowwal1 zb e).2; omega
       have hlwal1z := gz.keep hlwal1 (fun e => e)
       have hnlwal1z := hnlwal1
       refine hK.out _ _ (fun _ => TS) ?_
       clear hK K gz
       rw [hbzb] at hzwal1z ⊢
       generalize wal1.alloc (.cells zc 25) = wal1z at *
       try simp only [Act.put, sa1, sa2, sa3]
       refine wpAnyL_one (i := 15) (by kernel_rfl) rfl (fun K hK => ?_)
       refine step_row i0 hi0 hzz' hz1 hz2 rfl _ _ rfl w8.heap.size (.slice awal1 l.length cwal1) l.length 1 (vs.flatMap cellsOf) ⟨lb, 0, none⟩ 1 [.int .i64 tk, .string tt, .int .i64 tn, .slice a1 n1 c1, .slice a2 n2 c2] rfl rfl rowwal1z rfl (lit_cells hlwal1z) (by simp [Value.oneCell']) (by omega) Gwal1z.size ?_
       intro vwal1z2 wal1z2 rowwal1z2 gg keep
       have Gwal1z2 := Gwal1z.trans gg
       have TS : SM tb g i (.slice (some ⟨g, 0, none⟩) l.length lc) tk tt tn (.slice a1 n1 c1) (.slice a2 n2 c2) wal1z2 := TSb.gr Gwal1z2 (by omega) (by omega)
       obtain ⟨hlwal1z2, hnlwal1z2⟩ := keep lb _ hlwal1z hnlwal1z
       obtain ⟨hzwal1z2, hnzwal1z2⟩ := keep zb _ hzwal1z hnzwal1z
       obtain ⟨awal1z2, cwal1z2, rfl⟩ := ownsRow_sv rowwal1z2
       refine hK.out _ _ (fun _ => TS) ?_
       clear hK K gg keep
       try simp only [Act.put, sa1, sa2, sa3]
       refine wpAnyL_one (i := 16) (by kernel_rfl) rfl (fun K hK => ?_)
       go_simp
       refine hK.out _ _ (fun _ => TS) ?_
       clear hK K
       try simp only [Act.put, sa1, sa2, sa3]
       refine wpAnyL_one (i := 18) (by kernel_rfl) rfl (fun K hK => ?_)
       obtain ⟨⟨_, _, _, _, _⟩, ff0, ff1, ff2, ff3, ff4⟩ := five_cells hzwal1z2
       have hzl : zb < wal1z2.heap.size := (Array.getElem?_eq_some_iff.1 hzwal1z2).1
       go_simp
       refine hK.out _ _ (fun h => absurd rfl h) ?_
       clear hK K
       try simp only [Act.put, sa1, sa2, sa3]
       refine wpAnyL_done (by kernel_rfl) ?_ _
       refine NoPanic.normal ?_
       obtain ⟨F1, F2, F3⟩ := turns_fin (l1 := l) (l2 := [U]) (vs1 := vs) (vs2 := [trv tk tt tn (.slice a1 n1 c1) (.slice a2 n2 c2)]) (v := .slice awal1z2 (l.length + 1) cwal1z2) (w := wal1z2) (zb := zb) Gwal1z2 rowwal1z2 (hP.out wal1z2 Gwal1z2).2.1 (hP.out wal1z2 Gwal1z2).2.2 (fun z hz => hz.1) hzwal1z2 hnzwal1z2 hkzb
       obtain ⟨wF, hwF⟩ : ∃ wF, set5 wal1z2 zb (.int .i64 18) (.string e0) (.int .i64 0) nl (.slice awal1z2 (l.length + 1) cwal1z2) = wF := ⟨_, rfl⟩
       rw [hwF] at F1 F2 F3
       rw [show ((((wal1z2.setCell ⟨zb, 0, none⟩ (.int .i64 18)).setCell ⟨zb, 1, none⟩ (.string e0)).setCell ⟨zb, 2, none⟩ (.int .i64 0)).setCell ⟨zb, 3, none⟩ nl).setCell ⟨zb, 4, none⟩ (.slice awal1z2 (l.length + 1) cwal1z2) = wF from hwF]
       clear hwF
       have GF : Gr (fun _ => False) W wF := G8.trans' F1 (fun k hk e => by have := G8.size; omega)
       have hzF := (Array.getElem?_eq_some_iff.1 F3).1
       have hC : Hid (∀ w, Gr (fun _ => False) wF w → Calls Tryz.prog 11 #[trv 18 e0 0 nl (.slice awal1z2 (l.length + 1) cwal1z2)] w fun e w' => e = .returned (.int .i64 cA) ∧ Gr (fun _ => False) w w') := fun w gw => by
        have h := hck.out w (GF.trans gw) _ _ (F2.gen.turn (A' := fun z => z < w.heap.size) (fun z hz hl => ⟨Nat.lt_of_lt_of_le hl gw.size, gw.block z hl (fun e => e)⟩)) hszA.out
        rw [← hca.out] at h
        exact h
       have hF3 := Lib.hid F3
       obtain ⟨⟨t0, t1, t2, t3, t4⟩, _⟩ := five_cells F3
       clear F1 F2 F3 TS TSb
       rcases hcU.out with e | e
       ·
        have q1 : (cU == 0) = true := by rw [e]; rfl
        have hCw := hC.out wF (Gr.refl _ _)
        clear e
        go_wp2_with fail
        refine hCw.mono ?_
        rintro x w9 ⟨rfl, g9⟩
        have Z9 := g9.keep hF3.out (fun e => e)
        have hzw9 := (Array.getElem?_eq_some_iff.1 Z9).1
        clear t0 t1 t2 t3 t4
        obtain ⟨⟨t0, t1, t2, t3, t4⟩, _⟩ := five_cells Z9
        rcases hcA.out with e' | e'
        · have q3 : (cA == 171) = true := by rw [e']; rfl
          clear e'
          go_wp2_with fail
          go_ret
          exact ⟨rfl, GF.trans g9⟩
        · have q3 : (cA == 171) = false := by rw [e']; rfl
          have q4 : (cA == 170) = true := by rw [e']; rfl
          have hCw := hC.out w9 g9
          clear e'
          go_wp2_with fail
          refine hCw.mono ?_
          rintro x w10 ⟨rfl, g10⟩
          go_wp2_with fail
          go_ret
          exact ⟨rfl, (GF.trans g9).trans g10⟩
       ·
        have q1 : (cU == 0) = false := by rw [e]; rfl
        have q2 : (cU == 170) = true := by rw [e]; rfl
        have hCw := hC.out wF (Gr.refl _ _)
        clear e
        go_wp2_with fail
        refine hCw.mono ?_
        rintro x w9 ⟨rfl, g9⟩
        have Z9 := g9.keep hF3.out (fun e => e)
        have hzw9 := (Array.getElem?_eq_some_iff.1 Z9).1
        clear t0 t1 t2 t3 t4
        obtain ⟨⟨t0, t1, t2, t3, t4⟩, _⟩ := five_cells Z9
        rcases hcA.out with e' | e'
        · have q3 : (cA == 171) = true := by rw [e']; rfl
          clear e'
          go_wp2_with fail
          go_ret
          exact ⟨rfl, GF.trans g9⟩
        · have q3 : (cA == 171) = false := by rw [e']; rfl
          have q4 : (cA == 170) = true := by rw [e']; rfl
          have hCw := hC.out w9 g9
          clear e'
          go_wp2_with fail
          refine hCw.mono ?_
          rintro x w10 ⟨rfl, g10⟩
          go_wp2_with fail
          go_ret
          exact ⟨rfl, (GF.trans g9).trans g10⟩
     ·
      go_simp
      have gz := Gr.alloc wal (.cells zc 25) (fun _ => False)
      have Gwalz := Gwal.trans (gz.any _)
      have hzwalz := heap_alloc_new wal (.cells zc 25)
      have TS : SM tb g i (.slice (some ⟨g, 0, none⟩) l.length lc) tk tt tn (.slice a1 n1 c1) (.slice a2 n2 c2) (wal.alloc (.cells zc 25)) := TSb.gr Gwalz (by omega) (by omega)
      obtain ⟨zb, hbzb⟩ : ∃ u, wal.heap.size = u := ⟨_, rfl⟩
      have hkzb : w8.heap.size ≤ zb := by have := Gwal.size; omega
      have rowwalz := ownsRow_gr rowwal gz (fun _ _ e => e)
      have hnzwalz : (.slice (some ⟨gbwa, 0, none⟩) 0 0 : Value).ownBlock ≠ some zb := fun e => by have := (ownsRow_lt rowwal zb e).2; omega
      have hlwalz := gz.keep hlwal (fun e => e)
      have hnlwalz := hnlwal
      refine hK.out _ _ (fun _ => TS) ?_
      clear hK K gz
      rw [hbzb] at hzwalz ⊢
      generalize wal.alloc (.cells zc 25) = walz at *
      try simp only [Act.put, sa1, sa2, sa3]
      refine wpAnyL_one (i := 3) (by kernel_rfl) rfl (fun K hK => ?_)
      refine step_row i0 hi0 hzz' hz1 hz2 rfl _ _ rfl w8.heap.size (.slice (some ⟨gbwa, 0, none⟩) 0 0) 0 l.length [] ⟨g, 0, none⟩ lc (vs.flatMap cellsOf) rfl rfl rowwalz hvl.out (hP.out walz Gwalz).1 hv1.out (by omega) Gwalz.size ?_
      intro vwalz1 walz1 rowwalz1 gg keep
      rw [Nat.zero_add, List.nil_append] at rowwalz1
      have Gwalz1 := Gwalz.trans gg
      have TS : SM tb g i (.slice (some ⟨g, 0, none⟩) l.length lc) tk tt tn (.slice a1 n1 c1) (.slice a2 n2 c2) walz1 := TSb.gr Gwalz1 (by omega) (by omega)
      obtain ⟨hlwalz1, hnlwalz1⟩ := keep lb _ hlwalz hnlwalz
      obtain ⟨hzwalz1, hnzwalz1⟩ := keep zb _ hzwalz hnzwalz
      obtain ⟨awalz1, cwalz1, rfl⟩ := ownsRow_sv rowwalz1
      refine hK.out _ _ (fun _ => TS) ?_
      clear hK K gg keep
      try simp only [Act.put, sa1, sa2, sa3]
      refine wpAnyL_one (i := 15) (by kernel_rfl) rfl (fun K hK => ?_)
      refine step_row i0 hi0 hzz' hz1 hz2 rfl _ _ rfl w8.heap.size (.slice awalz1 l.length cwalz1) l.length 1 (vs.flatMap cellsOf) ⟨lb, 0, none⟩ 1 [.int .i64 tk, .string tt, .int .i64 tn, .slice a1 n1 c1, .slice a2 n2 c2] rfl rfl rowwalz1 rfl (lit_cells hlwalz1) (by simp [Value.oneCell']) (by omega) Gwalz1.size ?_
      intro vwalz12 walz12 rowwalz12 gg keep
      have Gwalz12 := Gwalz1.trans gg
      have TS : SM tb g i (.slice (some ⟨g, 0, none⟩) l.length lc) tk tt tn (.slice a1 n1 c1) (.slice a2 n2 c2) walz12 := TSb.gr Gwalz12 (by omega) (by omega)
      obtain ⟨hlwalz12, hnlwalz12⟩ := keep lb _ hlwalz1 hnlwalz1
      obtain ⟨hzwalz12, hnzwalz12⟩ := keep zb _ hzwalz1 hnzwalz1
      obtain ⟨awalz12, cwalz12, rfl⟩ := ownsRow_sv rowwalz12
      refine hK.out _ _ (fun _ => TS) ?_
      clear hK K gg keep
      try simp only [Act.put, sa1, sa2, sa3]
      refine wpAnyL_one (i := 16) (by kernel_rfl) rfl (fun K hK => ?_)
      go_simp
      refine hK.out _ _ (fun _ => TS) ?_
      clear hK K
      try simp only [Act.put, sa1, sa2, sa3]
      refine wpAnyL_one (i := 18) (by kernel_rfl) rfl (fun K hK => ?_)
      obtain ⟨⟨_, _, _, _, _⟩, ff0, ff1, ff2, ff3, ff4⟩ := five_cells hzwalz12
      have hzl : zb < walz12.heap.size := (Array.getElem?_eq_some_iff.1 hzwalz12).1
      go_simp
      refine hK.out _ _ (fun h => absurd rfl h) ?_
      clear hK K
      try simp only [Act.put, sa1, sa2, sa3]
      refine wpAnyL_done (by kernel_rfl) ?_ _
      refine NoPanic.normal ?_
      obtain ⟨F1, F2, F3⟩ := turns_fin (l1 := l) (l2 := [U]) (vs1 := vs) (vs2 := [trv tk tt tn (.slice a1 n1 c1) (.slice a2 n2 c2)]) (v := .slice awalz12 (l.length + 1) cwalz12) (w := walz12) (zb := zb) Gwalz12 rowwalz12 (hP.out walz12 Gwalz12).2.1 (hP.out walz12 Gwalz12).2.2 (fun z hz => hz.1) hzwalz12 hnzwalz12 hkzb
      obtain ⟨wF, hwF⟩ : ∃ wF, set5 walz12 zb (.int .i64 18) (.string e0) (.int .i64 0) nl (.slice awalz12 (l.length + 1) cwalz12) = wF := ⟨_, rfl⟩
      rw [hwF] at F1 F2 F3
      rw [show ((((walz12.setCell ⟨zb, 0, none⟩ (.int .i64 18)).setCell ⟨zb, 1, none⟩ (.string e0)).setCell ⟨zb, 2, none⟩ (.int .i64 0)).setCell ⟨zb, 3, none⟩ nl).setCell ⟨zb, 4, none⟩ (.slice awalz12 (l.length + 1) cwalz12) = wF from hwF]
      clear hwF
      have GF : Gr (fun _ => False) W wF := G8.trans' F1 (fun k hk e => by have := G8.size; omega)
      have hzF := (Array.getElem?_eq_some_iff.1 F3).1
      have hC : Hid (∀ w, Gr (fun _ => False) wF w → Calls Tryz.prog 11 #[trv 18 e0 0 nl (.slice awalz12 (l.length + 1) cwalz12)] w fun e w' => e = .returned (.int .i64 cA) ∧ Gr (fun _ => False) w w') := fun w gw => by
       have h := hck.out w (GF.trans gw) _ _ (F2.gen.turn (A' := fun z => z < w.heap.size) (fun z hz hl => ⟨Nat.lt_of_lt_of_le hl gw.size, gw.block z hl (fun e => e)⟩)) hszA.out
       rw [← hca.out] at h
       exact h
      have hF3 := Lib.hid F3
      obtain ⟨⟨t0, t1, t2, t3, t4⟩, _⟩ := five_cells F3
      clear F1 F2 F3 TS TSb
      rcases hcU.out with e | e
      ·
       have q1 : (cU == 0) = true := by rw [e]; rfl
       have hCw := hC.out wF (Gr.refl _ _)
       clear e
       go_wp2_with fail
       refine hCw.mono ?_
       rintro x w9 ⟨rfl, g9⟩
       have Z9 := g9.keep hF3.out (fun e => e)
       have hzw9 := (Array.getElem?_eq_some_iff.1 Z9).1
       clear t0 t1 t2 t3 t4
       obtain ⟨⟨t0, t1, t2, t3, t4⟩, _⟩ := five_cells Z9
       rcases hcA.out with e' | e'
       · have q3 : (cA == 171) = true := by rw [e']; rfl
         clear e'
         go_wp2_with fail
         go_ret
         exact ⟨rfl, GF.trans g9⟩
       · have q3 : (cA == 171) = false := by rw [e']; rfl
         have q4 : (cA == 170) = true := by rw [e']; rfl
         have hCw := hC.out w9 g9
         clear e'
         go_wp2_with fail
         refine hCw.mono ?_
         rintro x w10 ⟨rfl, g10⟩
         go_wp2_with fail
         go_ret
         exact ⟨rfl, (GF.trans g9).trans g10⟩
      ·
       have q1 : (cU == 0) = false := by rw [e]; rfl
       have q2 : (cU == 170) = true := by rw [e]; rfl
       have hCw := hC.out wF (Gr.refl _ _)
       clear e
       go_wp2_with fail
       refine hCw.mono ?_
       rintro x w9 ⟨rfl, g9⟩
       have Z9 := g9.keep hF3.out (fun e => e)
       have hzw9 := (Array.getElem?_eq_some_iff.1 Z9).1
       clear t0 t1 t2 t3 t4
       obtain ⟨⟨t0, t1, t2, t3, t4⟩, _⟩ := five_cells Z9
       rcases hcA.out with e' | e'
       · have q3 : (cA == 171) = true := by rw [e']; rfl
         clear e'
         go_wp2_with fail
         go_ret
         exact ⟨rfl, GF.trans g9⟩
       · have q3 : (cA == 171) = false := by rw [e']; rfl
         have q4 : (cA == 170) = true := by rw [e']; rfl
         have hCw := hC.out w9 g9
         clear e'
         go_wp2_with fail
         refine hCw.mono ?_
         rintro x w10 ⟨rfl, g10⟩
         go_wp2_with fail
         go_ret
         exact ⟨rfl, (GF.trans g9).trans g10⟩
    ·
     go_simp
     have gz := Gr.alloc wa (.cells zc 25) (fun _ => False)
     have Gwaz := Gwa.trans (gz.any _)
     have hzwaz := heap_alloc_new wa (.cells zc 25)
     have TS : SM tb g i (.slice (some ⟨g, 0, none⟩) l.length lc) tk tt tn (.slice a1 n1 c1) (.slice a2 n2 c2) (wa.alloc (.cells zc 25)) := TSb.gr Gwaz (by omega) (by omega)
     obtain ⟨zb, hbzb⟩ : ∃ u, wa.heap.size = u := ⟨_, rfl⟩
     have hkzb : w8.heap.size ≤ zb := by have := Gwa.size; omega
     have rowwaz := ownsRow_gr rowwa gz (fun _ _ e => e)
     have hnzwaz : (.slice (some ⟨gbwa, 0, none⟩) 0 0 : Value).ownBlock ≠ some zb := fun e => by have := (ownsRow_lt rowwa zb e).2; omega
     refine hK.out _ _ (fun _ => TS) ?_
     clear hK K gz
     rw [hbzb] at hzwaz ⊢
     generalize wa.alloc (.cells zc 25) = waz at *
     try simp only [Act.put, sa1, sa2, sa3]
     refine wpAnyL_two (i := 3) (j := 14) (by kernel_rfl) rfl rfl (fun K hK => ?_) (fun K hK => ?_)
     ·
      refine step_row i0 hi0 hzz' hz1 hz2 rfl _ _ rfl w8.heap.size (.slice (some ⟨gbwa, 0, none⟩) 0 0) 0 l.length [] ⟨g, 0, none⟩ lc (vs.flatMap cellsOf) rfl rfl rowwaz hvl.out (hP.out waz Gwaz).1 hv1.out (by omega) Gwaz.size ?_
      intro vwaz1 waz1 rowwaz1 gg keep
      rw [Nat.zero_add, List.nil_append] at rowwaz1
      have Gwaz1 := Gwaz.trans gg
      have TS : SM tb g i (.slice (some ⟨g, 0, none⟩) l.length lc) tk tt tn (.slice a1 n1 c1) (.slice a2 n2 c2) waz1 := TSb.gr Gwaz1 (by omega) (by omega)
      obtain ⟨hzwaz1, hnzwaz1⟩ := keep zb _ hzwaz hnzwaz
      obtain ⟨awaz1, cwaz1, rfl⟩ := ownsRow_sv rowwaz1
      refine hK.out _ _ (fun _ => TS) ?_
      clear hK K gg keep
      try simp only [Act.put, sa1, sa2, sa3]
      refine wpAnyL_one (i := 14) (by kernel_rfl) rfl (fun K hK => ?_)
      go_simp
      have gz := Gr.alloc waz1 (.cells #[.int .i64 tk, .string tt, .int .i64 tn, .slice a1 n1 c1, .slice a2 n2 c2] 25) (fun _ => False)
      have Gwaz1l := Gwaz1.trans (gz.any _)
      have hlwaz1l := heap_alloc_new waz1 (.cells #[.int .i64 tk, .string tt, .int .i64 tn, .slice a1 n1 c1, .slice a2 n2 c2] 25)
      have TS : SM tb g i (.slice (some ⟨g, 0, none⟩) l.length lc) tk tt tn (.slice a1 n1 c1) (.slice a2 n2 c2) (waz1.alloc (.cells #[.int .i64 tk, .string tt, .int .i64 tn, .slice a1 n1 c1, .slice a2 n2 c2] 25)) := TSb.gr Gwaz1l (by omega) (by omega)
      obtain ⟨lb, hblb⟩ : ∃ u, waz1.heap.size = u := ⟨_, rfl⟩
      have hklb : w8.heap.size ≤ lb := by have := Gwaz1.size; omega
      have rowwaz1l := ownsRow_gr rowwaz1 gz (fun _ _ e => e)
      have hnlwaz1l : (.slice awaz1 l.length cwaz1 : Value).ownBlock ≠ some lb := fun e => by have := (ownsRow_lt rowwaz1 lb e).2; omega
      have hzwaz1l := gz.keep hzwaz1 (fun e => e)
      have hnzwaz1l := hnzwaz1
      refine hK.out _ _ (fun _ => TS) ?_
      clear hK K gz
      rw [hblb] at hlwaz1l ⊢
      generalize waz1.alloc (.cells #[.int .i64 tk, .string tt, .int .i64 tn, .slice a1 n1 c1, .slice a2 n2 c2] 25) = waz1l at *
      try simp only [Act.put, sa1, sa2, sa3]
      refine wpAnyL_one (i := 15) (by kernel_rfl) rfl (fun K hK => ?_)
      refine step_row i0 hi0 hzz' hz1 hz2 rfl _ _ rfl w8.heap.size (.slice awaz1 l.length cwaz1) l.length 1 (vs.flatMap cellsOf) ⟨lb, 0, none⟩ 1 [.int .i64 tk, .string tt, .int .i64 tn, .slice a1 n1 c1, .slice a2 n2 c2] rfl rfl rowwaz1l rfl (lit_cells hlwaz1l) (by simp [Value.oneCell']) (by omega) Gwaz1l.size ?_
      intro vwaz1l2 waz1l2 rowwaz1l2 gg keep
      have Gwaz1l2 := Gwaz1l.trans gg
      have TS : SM tb g i (.slice (some ⟨g, 0, none⟩) l.length lc) tk tt tn (.slice a1 n1 c1) (.slice a2 n2 c2) waz1l2 := TSb.gr Gwaz1l2 (by omega) (by omega)
      obtain ⟨hzwaz1l2, hnzwaz1l2⟩ := keep zb _ hzwaz1l hnzwaz1l
      obtain ⟨hlwaz1l2, hnlwaz1l2⟩ := keep lb _ hlwaz1l hnlwaz1l
      obtain ⟨awaz1l2, cwaz1l2, rfl⟩ := ownsRow_sv rowwaz1l2
      refine hK.out _ _ (fun _ => TS) ?_
      clear hK K gg keep
      try simp only [Act.put, sa1, sa2, sa3]
      refine wpAnyL_one (i := 16) (by kernel_rfl) rfl (fun K hK => ?_)
      go_simp
      refine hK.out _ _ (fun _ => TS) ?_
      clear hK K
      try simp only [Act.put, sa1, sa2, sa3]
      refine wpAnyL_one (i := 18) (by kernel_rfl) rfl (fun K hK => ?_)
      obtain ⟨⟨_, _, _, _, _⟩, ff0, ff1, ff2, ff3, ff4⟩ := five_cells hzwaz1l2
      have hzl : zb < waz1l2.heap.size := (Array.getElem?_eq_some_iff.1 hzwaz1l2).1
      go_simp
      refine hK.out _ _ (fun h => absurd rfl h) ?_
      clear hK K
      try simp only [Act.put, sa1, sa2, sa3]
      refine wpAnyL_done (by kernel_rfl) ?_ _
      refine NoPanic.normal ?_
      obtain ⟨F1, F2, F3⟩ := turns_fin (l1 := l) (l2 := [U]) (vs1 := vs) (vs2 := [trv tk tt tn (.slice a1 n1 c1) (.slice a2 n2 c2)]) (v := .slice awaz1l2 (l.length + 1) cwaz1l2) (w := waz1l2) (zb := zb) Gwaz1l2 rowwaz1l2 (hP.out waz1l2 Gwaz1l2).2.1 (hP.out waz1l2 Gwaz1l2).2.2 (fun z hz => hz.1) hzwaz1l2 hnzwaz1l2 hkzb
      obtain ⟨wF, hwF⟩ : ∃ wF, set5 waz1l2 zb (.int .i64 18) (.string e0) (.int .i64 0) nl (.slice awaz1l2 (l.length + 1) cwaz1l2) = wF := ⟨_, rfl⟩
      rw [hwF] at F1 F2 F3
      rw [show ((((waz1l2.setCell ⟨zb, 0, none⟩ (.int .i64 18)).setCell ⟨zb, 1, none⟩ (.string e0)).setCell ⟨zb, 2, none⟩ (.int .i64 0)).setCell ⟨zb, 3, none⟩ nl).setCell ⟨zb, 4, none⟩ (.slice awaz1l2 (l.length + 1) cwaz1l2) = wF from hwF]
      clear hwF
      have GF : Gr (fun _ => False) W wF := G8.trans' F1 (fun k hk e => by have := G8.size; omega)
      have hzF := (Array.getElem?_eq_some_iff.1 F3).1
      have hC : Hid (∀ w, Gr (fun _ => False) wF w → Calls Tryz.prog 11 #[trv 18 e0 0 nl (.slice awaz1l2 (l.length + 1) cwaz1l2)] w fun e w' => e = .returned (.int .i64 cA) ∧ Gr (fun _ => False) w w') := fun w gw => by
       have h := hck.out w (GF.trans gw) _ _ (F2.gen.turn (A' := fun z => z < w.heap.size) (fun z hz hl => ⟨Nat.lt_of_lt_of_le hl gw.size, gw.block z hl (fun e => e)⟩)) hszA.out
       rw [← hca.out] at h
       exact h
      have hF3 := Lib.hid F3
      obtain ⟨⟨t0, t1, t2, t3, t4⟩, _⟩ := five_cells F3
      clear F1 F2 F3 TS TSb
      rcases hcU.out with e | e
      ·
       have q1 : (cU == 0) = true := by rw [e]; rfl
       have hCw := hC.out wF (Gr.refl _ _)
       clear e
       go_wp2_with fail
       refine hCw.mono ?_
       rintro x w9 ⟨rfl, g9⟩
       have Z9 := g9.keep hF3.out (fun e => e)
       have hzw9 := (Array.getElem?_eq_some_iff.1 Z9).1
       clear t0 t1 t2 t3 t4
       obtain ⟨⟨t0, t1, t2, t3, t4⟩, _⟩ := five_cells Z9
       rcases hcA.out with e' | e'
       · have q3 : (cA == 171) = true := by rw [e']; rfl
         clear e'
         go_wp2_with fail
         go_ret
         exact ⟨rfl, GF.trans g9⟩
       · have q3 : (cA == 171) = false := by rw [e']; rfl
         have q4 : (cA == 170) = true := by rw [e']; rfl
         have hCw := hC.out w9 g9
         clear e'
         go_wp2_with fail
         refine hCw.mono ?_
         rintro x w10 ⟨rfl, g10⟩
         go_wp2_with fail
         go_ret
         exact ⟨rfl, (GF.trans g9).trans g10⟩
      ·
       have q1 : (cU == 0) = false := by rw [e]; rfl
       have q2 : (cU == 170) = true := by rw [e]; rfl
       have hCw := hC.out wF (Gr.refl _ _)
       clear e
       go_wp2_with fail
       refine hCw.mono ?_
       rintro x w9 ⟨rfl, g9⟩
       have Z9 := g9.keep hF3.out (fun e => e)
       have hzw9 := (Array.getElem?_eq_some_iff.1 Z9).1
       clear t0 t1 t2 t3 t4
       obtain ⟨⟨t0, t1, t2, t3, t4⟩, _⟩ := five_cells Z9
       rcases hcA.out with e' | e'
       · have q3 : (cA == 171) = true := by rw [e']; rfl
         clear e'
         go_wp2_with fail
         go_ret
         exact ⟨rfl, GF.trans g9⟩
       · have q3 : (cA == 171) = false := by rw [e']; rfl
         have q4 : (cA == 170) = true := by rw [e']; rfl
         have hCw := hC.out w9 g9
         clear e'
         go_wp2_with fail
         refine hCw.mono ?_
         rintro x w10 ⟨rfl, g10⟩
         go_wp2_with fail
         go_ret
         exact ⟨rfl, (GF.trans g9).trans g10⟩
     ·
      go_simp
      have gz := Gr.alloc waz (.cells #[.int .i64 tk, .string tt, .int .i64 tn, .slice a1 n1 c1, .slice a2 n2 c2] 25) (fun _ => False)
      have Gwazl := Gwaz.trans (gz.any _)
      have hlwazl := heap_alloc_new waz (.cells #[.int .i64 tk, .string tt, .int .i64 tn, .slice a1 n1 c1, .slice a2 n2 c2] 25)
      have TS : SM tb g i (.slice (some ⟨g, 0, none⟩) l.length lc) tk tt tn (.slice a1 n1 c1) (.slice a2 n2 c2) (waz.alloc (.cells #[.int .i64 tk, .string tt, .int .i64 tn, .slice a1 n1 c1, .slice a2 n2 c2] 25)) := TSb.gr Gwazl (by omega) (by omega)
      obtain ⟨lb, hblb⟩ : ∃ u, waz.heap.size = u := ⟨_, rfl⟩
      have hklb : w8.heap.size ≤ lb := by have := Gwaz.size; omega
      have rowwazl := ownsRow_gr rowwaz gz (fun _ _ e => e)
      have hnlwazl : (.slice (some ⟨gbwa, 0, none⟩) 0 0 : Value).ownBlock ≠ some lb := fun e => by have := (ownsRow_lt rowwaz lb e).2; omega
      have hzwazl := gz.keep hzwaz (fun e => e)
      have hnzwazl := hnzwaz
      refine hK.out _ _ (fun _ => TS) ?_
      clear hK K gz
      rw [hblb] at hlwazl ⊢
      generalize waz.alloc (.cells #[.int .i64 tk, .string tt, .int .i64 tn, .slice a1 n1 c1, .slice a2 n2 c2] 25) = wazl at *
      try simp only [Act.put, sa1, sa2, sa3]
      refine wpAnyL_one (i := 3) (by kernel_rfl) rfl (fun K hK => ?_)
      refine step_row i0 hi0 hzz' hz1 hz2 rfl _ _ rfl w8.heap.size (.slice (some ⟨gbwa, 0, none⟩) 0 0) 0 l.length [] ⟨g, 0, none⟩ lc (vs.flatMap cellsOf) rfl rfl rowwazl hvl.out (hP.out wazl Gwazl).1 hv1.out (by omega) Gwazl.size ?_
      intro vwazl1 wazl1 rowwazl1 gg keep
      rw [Nat.zero_add, List.nil_append] at rowwazl1
      have Gwazl1 := Gwazl.trans gg
      have TS : SM tb g i (.slice (some ⟨g, 0, none⟩) l.length lc) tk tt tn (.slice a1 n1 c1) (.slice a2 n2 c2) wazl1 := TSb.gr Gwazl1 (by omega) (by omega)
      obtain ⟨hzwazl1, hnzwazl1⟩ := keep zb _ hzwazl hnzwazl
      obtain ⟨hlwazl1, hnlwazl1⟩ := keep lb _ hlwazl hnlwazl
      obtain ⟨awazl1, cwazl1, rfl⟩ := ownsRow_sv rowwazl1
      refine hK.out _ _ (fun _ => TS) ?_
      clear hK K gg keep
      try simp only [Act.put, sa1, sa2, sa3]
      refine wpAnyL_one (i := 15) (by kernel_rfl) rfl (fun K hK => ?_)
      refine step_row i0 hi0 hzz' hz1 hz2 rfl _ _ rfl w8.heap.size (.slice awazl1 l.length cwazl1) l.length 1 (vs.flatMap cellsOf) ⟨lb, 0, none⟩ 1 [.int .i64 tk, .string tt, .int .i64 tn, .slice a1 n1 c1, .slice a2 n2 c2] rfl rfl rowwazl1 rfl (lit_cells hlwazl1) (by simp [Value.oneCell']) (by omega) Gwazl1.size ?_
      intro vwazl12 wazl12 rowwazl12 gg keep
      have Gwazl12 := Gwazl1.trans gg
      have TS : SM tb g i (.slice (some ⟨g, 0, none⟩) l.length lc) tk tt tn (.slice a1 n1 c1) (.slice a2 n2 c2) wazl12 := TSb.gr Gwazl12 (by omega) (by omega)
      obtain ⟨hzwazl12, hnzwazl12⟩ := keep zb _ hzwazl1 hnzwazl1
      obtain ⟨hlwazl12, hnlwazl12⟩ := keep lb _ hlwazl1 hnlwazl1
      obtain ⟨awazl12, cwazl12, rfl⟩ := ownsRow_sv rowwazl12
      refine hK.out _ _ (fun _ => TS) ?_
      clear hK K gg keep
      try simp only [Act.put, sa1, sa2, sa3]
      refine wpAnyL_one (i := 16) (by kernel_rfl) rfl (fun K hK => ?_)
      go_simp
      refine hK.out _ _ (fun _ => TS) ?_
      clear hK K
      try simp only [Act.put, sa1, sa2, sa3]
      refine wpAnyL_one (i := 18) (by kernel_rfl) rfl (fun K hK => ?_)
      obtain ⟨⟨_, _, _, _, _⟩, ff0, ff1, ff2, ff3, ff4⟩ := five_cells hzwazl12
      have hzl : zb < wazl12.heap.size := (Array.getElem?_eq_some_iff.1 hzwazl12).1
      go_simp
      refine hK.out _ _ (fun h => absurd rfl h) ?_
      clear hK K
      try simp only [Act.put, sa1, sa2, sa3]
      refine wpAnyL_done (by kernel_rfl) ?_ _
      refine NoPanic.normal ?_
      obtain ⟨F1, F2, F3⟩ := turns_fin (l1 := l) (l2 := [U]) (vs1 := vs) (vs2 := [trv tk tt tn (.slice a1 n1 c1) (.slice a2 n2 c2)]) (v := .slice awazl12 (l.length + 1) cwazl12) (w := wazl12) (zb := zb) Gwazl12 rowwazl12 (hP.out wazl12 Gwazl12).2.1 (hP.out wazl12 Gwazl12).2.2 (fun z hz => hz.1) hzwazl12 hnzwazl12 hkzb
      obtain ⟨wF, hwF⟩ : ∃ wF, set5 wazl12 zb (.int .i64 18) (.string e0) (.int .i64 0) nl (.slice awazl12 (l.length + 1) cwazl12) = wF := ⟨_, rfl⟩
      rw [hwF] at F1 F2 F3
      rw [show ((((wazl12.setCell ⟨zb, 0, none⟩ (.int .i64 18)).setCell ⟨zb, 1, none⟩ (.string e0)).setCell ⟨zb, 2, none⟩ (.int .i64 0)).setCell ⟨zb, 3, none⟩ nl).setCell ⟨zb, 4, none⟩ (.slice awazl12 (l.length + 1) cwazl12) = wF from hwF]
      clear hwF
      have GF : Gr (fun _ => False) W wF := G8.trans' F1 (fun k hk e => by have := G8.size; omega)
      have hzF := (Array.getElem?_eq_some_iff.1 F3).1
      have hC : Hid (∀ w, Gr (fun _ => False) wF w → Calls Tryz.prog 11 #[trv 18 e0 0 nl (.slice awazl12 (l.length + 1) cwazl12)] w fun e w' => e = .returned (.int .i64 cA) ∧ Gr (fun _ => False) w w') := fun w gw => by
       have h := hck.out w (GF.trans gw) _ _ (F2.gen.turn (A' := fun z => z < w.heap.size) (fun z hz hl => ⟨Nat.lt_of_lt_of_le hl gw.size, gw.block z hl (fun e => e)⟩)) hszA.out
       rw [← hca.out] at h
       exact h
      have hF3 := Lib.hid F3
      obtain ⟨⟨t0, t1, t2, t3, t4⟩, _⟩ := five_cells F3
      clear F1 F2 F3 TS TSb
      rcases hcU.out with e | e
      ·
       have q1 : (cU == 0) = true := by rw [e]; rfl
       have hCw := hC.out wF (Gr.refl _ _)
       clear e
       go_wp2_with fail
       refine hCw.mono ?_
       rintro x w9 ⟨rfl, g9⟩
       have Z9 := g9.keep hF3.out (fun e => e)
       have hzw9 := (Array.getElem?_eq_some_iff.1 Z9).1
       clear t0 t1 t2 t3 t4
       obtain ⟨⟨t0, t1, t2, t3, t4⟩, _⟩ := five_cells Z9
       rcases hcA.out with e' | e'
       · have q3 : (cA == 171) = true := by rw [e']; rfl
         clear e'
         go_wp2_with fail
         go_ret
         exact ⟨rfl, GF.trans g9⟩
       · have q3 : (cA == 171) = false := by rw [e']; rfl
         have q4 : (cA == 170) = true := by rw [e']; rfl
         have hCw := hC.out w9 g9
         clear e'
         go_wp2_with fail
         refine hCw.mono ?_
         rintro x w10 ⟨rfl, g10⟩
         go_wp2_with fail
         go_ret
         exact ⟨rfl, (GF.trans g9).trans g10⟩
      ·
       have q1 : (cU == 0) = false := by rw [e]; rfl
       have q2 : (cU == 170) = true := by rw [e]; rfl
       have hCw := hC.out wF (Gr.refl _ _)
       clear e
       go_wp2_with fail
       refine hCw.mono ?_
       rintro x w9 ⟨rfl, g9⟩
       have Z9 := g9.keep hF3.out (fun e => e)
       have hzw9 := (Array.getElem?_eq_some_iff.1 Z9).1
       clear t0 t1 t2 t3 t4
       obtain ⟨⟨t0, t1, t2, t3, t4⟩, _⟩ := five_cells Z9
       rcases hcA.out with e' | e'
       · have q3 : (cA == 171) = true := by rw [e']; rfl
         clear e'
         go_wp2_with fail
         go_ret
         exact ⟨rfl, GF.trans g9⟩
       · have q3 : (cA == 171) = false := by rw [e']; rfl
         have q4 : (cA == 170) = true := by rw [e']; rfl
         have hCw := hC.out w9 g9
         clear e'
         go_wp2_with fail
         refine hCw.mono ?_
         rintro x w10 ⟨rfl, g10⟩
         go_wp2_with fail
         go_ret
         exact ⟨rfl, (GF.trans g9).trans g10⟩
   ·
    go_simp
    have gz := Gr.alloc w (.cells #[.int .i64 tk, .string tt, .int .i64 tn, .slice a1 n1 c1, .slice a2 n2 c2] 25) (fun _ => False)
    have Gwl := Gw.trans (gz.any _)
    have hlwl := heap_alloc_new w (.cells #[.int .i64 tk, .string tt, .int .i64 tn, .slice a1 n1 c1, .slice a2 n2 c2] 25)
    have TS : SM tb g i (.slice (some ⟨g, 0, none⟩) l.length lc) tk tt tn (.slice a1 n1 c1) (.slice a2 n2 c2) (w.alloc (.cells #[.int .i64 tk, .string tt, .int .i64 tn, .slice a1 n1 c1, .slice a2 n2 c2] 25)) := TSb.gr Gwl (by omega) (by omega)
    obtain ⟨lb, hblb⟩ : ∃ u, w.heap.size = u := ⟨_, rfl⟩
    have hklb : w8.heap.size ≤ lb := by have := Gw.size; omega
    refine hK.out _ _ (fun _ => TS) ?_
    clear hK K gz
    rw [hblb] at hlwl ⊢
    generalize w.alloc (.cells #[.int .i64 tk, .string tt, .int .i64 tn, .slice a1 n1 c1, .slice a2 n2 c2] 25) = wl at *
    try simp only [Act.put, sa1, sa2, sa3]
    refine wpAnyL_two (i := 0) (j := 17) (by kernel_rfl) rfl rfl (fun K hK => ?_) (fun K hK => ?_)
    ·
     go_simp
     have rowwla := row_empty (w0 := wl) (base := w8.heap.size) Gwl.size
     have gz := Gr.alloc wl (.cells #[] 25) (fun _ => False)
     have Gwla := Gwl.trans (gz.any _)
     have TS : SM tb g i (.slice (some ⟨g, 0, none⟩) l.length lc) tk tt tn (.slice a1 n1 c1) (.slice a2 n2 c2) (wl.alloc (.cells #[] 25)) := TSb.gr Gwla (by omega) (by omega)
     have hlwla := gz.keep hlwl (fun e => e)
     have hnlwla : (Value.slice (some ⟨wl.heap.size, 0, none⟩) 0 0).ownBlock ≠ some lb := by
      have : lb < wl.heap.size := (Array.getElem?_eq_some_iff.1 hlwl).1
      simp [Value.ownBlock]; omega
     have hswla : wl.heap.size < (wl.alloc (.cells #[] 25)).heap.size := by simp
     refine hK.out _ _ (fun _ => TS) ?_
     clear hK K gz
     generalize wl.alloc (.cells #[] 25) = wla at *
     obtain ⟨gbwla, hgbwla⟩ : ∃ u, wl.heap.size = u := ⟨_, rfl⟩
     rw [hgbwla] at rowwla hnlwla ⊢
     try simp only [Act.put, sa1, sa2, sa3]
     refine wpAnyL_two (i := 3) (j := 17) (by kernel_rfl) rfl rfl (fun K hK => ?_) (fun K hK => ?_)
     ·
      refine step_row i0 hi0 hzz' hz1 hz2 rfl _ _ rfl w8.heap.size (.slice (some ⟨gbwla, 0, none⟩) 0 0) 0 l.length [] ⟨g, 0, none⟩ lc (vs.flatMap cellsOf) rfl rfl rowwla hvl.out (hP.out wla Gwla).1 hv1.out (by omega) Gwla.size ?_
      intro vwla1 wla1 rowwla1 gg keep
      rw [Nat.zero_add, List.nil_append] at rowwla1
      have Gwla1 := Gwla.trans gg
      have TS : SM tb g i (.slice (some ⟨g, 0, none⟩) l.length lc) tk tt tn (.slice a1 n1 c1) (.slice a2 n2 c2) wla1 := TSb.gr Gwla1 (by omega) (by omega)
      obtain ⟨hlwla1, hnlwla1⟩ := keep lb _ hlwla hnlwla
      obtain ⟨awla1, cwla1, rfl⟩ := ownsRow_sv rowwla1
      refine hK.out _ _ (fun _ => TS) ?_
      clear hK K gg keep
      try simp only [Act.put, sa1, sa2, sa3]
      refine wpAnyL_two (i := 15) (j := 17) (by kernel_rfl) rfl rfl (fun K hK => ?_) (fun K hK => ?_)
      ·
       refine step_row i0 hi0 hzz' hz1 hz2 rfl _ _ rfl w8.heap.size (.slice awla1 l.length cwla1) l.length 1 (vs.flatMap cellsOf) ⟨lb, 0, none⟩ 1 [.int .i64 tk, .string tt, .int .i64 tn, .slice a1 n1 c1, .slice a2 n2 c2] rfl rfl rowwla1 rfl (lit_cells hlwla1) (by simp [Value.oneCell']) (by omega) Gwla1.size ?_
       intro vwla12 wla12 rowwla12 gg keep
       have Gwla12 := Gwla1.trans gg
       have TS : SM tb g i (.slice (some ⟨g, 0, none⟩) l.length lc) tk tt tn (.slice a1 n1 c1) (.slice a2 n2 c2) wla12 := TSb.gr Gwla12 (by omega) (by omega)
       obtain ⟨hlwla12, hnlwla12⟩ := keep lb _ hlwla1 hnlwla1
       obtain ⟨awla12, cwla12, rfl⟩ := ownsRow_sv rowwla12
       refine hK.out _ _ (fun _ => TS) ?_
       clear hK K gg keep
       try simp only [Act.put, sa1, sa2, sa3]
       refine wpAnyL_two (i := 16) (j := 17) (by kernel_rfl) rfl rfl (fun K hK => ?_) (fun K hK => ?_)
       ·
        go_simp
        refine hK.out _ _ (fun _ => TS) ?_
        clear hK K
        try simp only [Act.put, sa1, sa2, sa3]
        refine wpAnyL_one (i := 17) (by kernel_rfl) rfl (fun K hK => ?_)
        go_simp
        have gz := Gr.alloc wla12 (.cells zc 25) (fun _ => False)
        have Gwla12z := Gwla12.trans (gz.any _)
        have hzwla12z := heap_alloc_new wla12 (.cells zc 25)
        have TS : SM tb g i (.slice (some ⟨g, 0, none⟩) l.length lc) tk tt tn (.slice a1 n1 c1) (.slice a2 n2 c2) (wla12.alloc (.cells zc 25)) := TSb.gr Gwla12z (by omega) (by omega)
        obtain ⟨zb, hbzb⟩ : ∃ u, wla12.heap.size = u := ⟨_, rfl⟩
        have hkzb : w8.heap.size ≤ zb := by have := Gwla12.size; omega
        have rowwla12z := ownsRow_gr rowwla12 gz (fun _ _ e => e)
        have hnzwla12z : (.slice awla12 (l.length + 1) cwla12 : Value).ownBlock ≠ some zb := fun e => by have := (ownsRow_lt rowwla12 zb e).2; omega
        have hlwla12z := gz.keep hlwla12 (fun e => e)
        have hnlwla12z := hnlwla12
        refine hK.out _ _ (fun _ => TS) ?_
        clear hK K gz
        rw [hbzb] at hzwla12z ⊢
        generalize wla12.alloc (.cells zc 25) = wla12z at *
        try simp only [Act.put, sa1, sa2, sa3]
        refine wpAnyL_one (i := 18) (by kernel_rfl) rfl (fun K hK => ?_)
        obtain ⟨⟨_, _, _, _, _⟩, ff0, ff1, ff2, ff3, ff4⟩ := five_cells hzwla12z
        have hzl : zb < wla12z.heap.size := (Array.getElem?_eq_some_iff.1 hzwla12z).1
        go_simp
        refine hK.out _ _ (fun h => absurd rfl h) ?_
        clear hK K
        try simp only [Act.put, sa1, sa2, sa3]
        refine wpAnyL_done (by kernel_rfl) ?_ _
        refine NoPanic.normal ?_
        obtain ⟨F1, F2, F3⟩ := turns_fin (l1 := l) (l2 := [U]) (vs1 := vs) (vs2 := [trv tk tt tn (.slice a1 n1 c1) (.slice a2 n2 c2)]) (v := .slice awla12 (l.length + 1) cwla12) (w := wla12z) (zb := zb) Gwla12z rowwla12z (hP.out wla12z Gwla12z).2.1 (hP.out wla12z Gwla12z).2.2 (fun z hz => hz.1) hzwla12z hnzwla12z hkzb
        obtain ⟨wF, hwF⟩ : ∃ wF, set5 wla12z zb (.int .i64 18) (.string e0) (.int .i64 0) nl (.slice awla12 (l.length + 1) cwla12) = wF := ⟨_, rfl⟩
        rw [hwF] at F1 F2 F3
        rw [show ((((wla12z.setCell ⟨zb, 0, none⟩ (.int .i64 18)).setCell ⟨zb, 1, none⟩ (.string e0)).setCell ⟨zb, 2, none⟩ (.int .i64 0)).setCell ⟨zb, 3, none⟩ nl).setCell ⟨zb, 4, none⟩ (.slice awla12 (l.length + 1) cwla12) = wF from hwF]
        clear hwF
        have GF : Gr (fun _ => False) W wF := G8.trans' F1 (fun k hk e => by have := G8.size; omega)
        have hzF := (Array.getElem?_eq_some_iff.1 F3).1
        have hC : Hid (∀ w, Gr (fun _ => False) wF w → Calls Tryz.prog 11 #[trv 18 e0 0 nl (.slice awla12 (l.length + 1) cwla12)] w fun e w' => e = .returned (.int .i64 cA) ∧ Gr (fun _ => False) w w') := fun w gw => by
         have h := hck.out w (GF.trans gw) _ _ (F2.gen.turn (A' := fun z => z < w.heap.size) (fun z hz hl => ⟨Nat.lt_of_lt_of_le hl gw.size, gw.block z hl (fun e => e)⟩)) hszA.out
         rw [← hca.out] at h
         exact h
        have hF3 := Lib.hid F3
        obtain ⟨⟨t0, t1, t2, t3, t4⟩, _⟩ := five_cells F3
        clear F1 F2 F3 TS TSb
        rcases hcU.out with e | e
        ·
         have q1 : (cU == 0) = true := by rw [e]; rfl
         have hCw := hC.out wF (Gr.refl _ _)
         clear e
         go_wp2_with fail
         refine hCw.mono ?_
         rintro x w9 ⟨rfl, g9⟩
         have Z9 := g9.keep hF3.out (fun e => e)
         have hzw9 := (Array.getElem?_eq_some_iff.1 Z9).1
         clear t0 t1 t2 t3 t4
         obtain ⟨⟨t0, t1, t2, t3, t4⟩, _⟩ := five_cells Z9
         rcases hcA.out with e' | e'
         · have q3 : (cA == 171) = true := by rw [e']; rfl
           clear e'
           go_wp2_with fail
           go_ret
           exact ⟨rfl, GF.trans g9⟩
         · have q3 : (cA == 171) = false := by rw [e']; rfl
           have q4 : (cA == 170) = true := by rw [e']; rfl
           have hCw := hC.out w9 g9
           clear e'
           go_wp2_with fail
           refine hCw.mono ?_
           rintro x w10 ⟨rfl, g10⟩
           go_wp2_with fail
           go_ret
           exact ⟨rfl, (GF.trans g9).trans g10⟩
        ·
         have q1 : (cU == 0) = false := by rw [e]; rfl
         have q2 : (cU == 170) = true := by rw [e]; rfl
         have hCw := hC.out wF (Gr.refl _ _)
         clear e
         go_wp2_with fail
         refine hCw.mono ?_
         rintro x w9 ⟨rfl, g9⟩
         have Z9 := g9.keep hF3.out (fun e => e)
         have hzw9 := (Array.getElem?_eq_some_iff.1 Z9).1
         clear t0 t1 t2 t3 t4
         obtain ⟨⟨t0, t1, t2, t3, t4⟩, _⟩ := five_cells Z9
         rcases hcA.out with e' | e'
         · have q3 : (cA == 171) = true := by rw [e']; rfl
           clear e'
           go_wp2_with fail
           go_ret
           exact ⟨rfl, GF.trans g9⟩
         · have q3 : (cA == 171) = false := by rw [e']; rfl
           have q4 : (cA == 170) = true := by rw [e']; rfl
           have hCw := hC.out w9 g9
           clear e'
           go_wp2_with fail
           refine hCw.mono ?_
           rintro x w10 ⟨rfl, g10⟩
           go_wp2_with fail
           go_ret
           exact ⟨rfl, (GF.trans g9).trans g10⟩
       ·
        go_simp
        have gz := Gr.alloc wla12 (.cells zc 25) (fun _ => False)
        have Gwla12z := Gwla12.trans (gz.any _)
        have hzwla12z := heap_alloc_new wla12 (.cells zc 25)
        have TS : SM tb g i (.slice (some ⟨g, 0, none⟩) l.length lc) tk tt tn (.slice a1 n1 c1) (.slice a2 n2 c2) (wla12.alloc (.cells zc 25)) := TSb.gr Gwla12z (by omega) (by omega)
        obtain ⟨zb, hbzb⟩ : ∃ u, wla12.heap.size = u := ⟨_, rfl⟩
        have hkzb : w8.heap.size ≤ zb := by have := Gwla12.size; omega
        have rowwla12z := ownsRow_gr rowwla12 gz (fun _ _ e => e)
        have hnzwla12z : (.slice awla12 (l.length + 1) cwla12 : Value).ownBlock ≠ some zb := fun e => by have := (ownsRow_lt rowwla12 zb e).2; omega
        have hlwla12z := gz.keep hlwla12 (fun e => e)
        have hnlwla12z := hnlwla12
        refine hK.out _ _ (fun _ => TS) ?_
        clear hK K gz
        rw [hbzb] at hzwla12z ⊢
        generalize wla12.alloc (.cells zc 25) = wla12z at *
        try simp only [Act.put, sa1, sa2, sa3]
        refine wpAnyL_one (i := 16) (by kernel_rfl) rfl (fun K hK => ?_)
        go_simp
        refine hK.out _ _ (fun _ => TS) ?_
        clear hK K
        try simp only [Act.put, sa1, sa2, sa3]
        refine wpAnyL_one (i := 18) (by kernel_rfl) rfl (fun K hK => ?_)
        obtain ⟨⟨_, _, _, _, _⟩, ff0, ff1, ff2, ff3, ff4⟩ := five_cells hzwla12z
        have hzl : zb < wla12z.heap.size := (Array.getElem?_eq_some_iff.1 hzwla12z).1
        go_simp
        refine hK.out _ _ (fun h => absurd rfl h) ?_
        clear hK K
        try simp only [Act.put, sa1, sa2, sa3]
        refine wpAnyL_done (by kernel_rfl) ?_ _
        refine NoPanic.normal ?_
        obtain ⟨F1, F2, F3⟩ := turns_fin (l1 := l) (l2 := [U]) (vs1 := vs) (vs2 := [trv tk tt tn (.slice a1 n1 c1) (.slice a2 n2 c2)]) (v := .slice awla12 (l.length + 1) cwla12) (w := wla12z) (zb := zb) Gwla12z rowwla12z (hP.out wla12z Gwla12z).2.1 (hP.out wla12z Gwla12z).2.2 (fun z hz => hz.1) hzwla12z hnzwla12z hkzb
        obtain ⟨wF, hwF⟩ : ∃ wF, set5 wla12z zb (.int .i64 18) (.string e0) (.int .i64 0) nl (.slice awla12 (l.length + 1) cwla12) = wF := ⟨_, rfl⟩
        rw [hwF] at F1 F2 F3
        rw [show ((((wla12z.setCell ⟨zb, 0, none⟩ (.int .i64 18)).setCell ⟨zb, 1, none⟩ (.string e0)).setCell ⟨zb, 2, none⟩ (.int .i64 0)).setCell ⟨zb, 3, none⟩ nl).setCell ⟨zb, 4, none⟩ (.slice awla12 (l.length + 1) cwla12) = wF from hwF]
        clear hwF
        have GF : Gr (fun _ => False) W wF := G8.trans' F1 (fun k hk e => by have := G8.size; omega)
        have hzF := (Array.getElem?_eq_some_iff.1 F3).1
        have hC : Hid (∀ w, Gr (fun _ => False) wF w → Calls Tryz.prog 11 #[trv 18 e0 0 nl (.slice awla12 (l.length + 1) cwla12)] w fun e w' => e = .returned (.int .i64 cA) ∧ Gr (fun _ => False) w w') := fun w gw => by
         have h := hck.out w (GF.trans gw) _ _ (F2.gen.turn (A' := fun z => z < w.heap.size) (fun z hz hl => ⟨Nat.lt_of_lt_of_le hl gw.size, gw.block z hl (fun e => e)⟩)) hszA.out
         rw [← hca.out] at h
         exact h
        have hF3 := Lib.hid F3
        obtain ⟨⟨t0, t1, t2, t3, t4⟩, _⟩ := five_cells F3
        clear F1 F2 F3 TS TSb
        rcases hcU.out with e | e
        ·
         have q1 : (cU == 0) = true := by rw [e]; rfl
         have hCw := hC.out wF (Gr.refl _ _)
         clear e
         go_wp2_with fail
         refine hCw.mono ?_
         rintro x w9 ⟨rfl, g9⟩
         have Z9 := g9.keep hF3.out (fun e => e)
         have hzw9 := (Array.getElem?_eq_some_iff.1 Z9).1
         clear t0 t1 t2 t3 t4
         obtain ⟨⟨t0, t1, t2, t3, t4⟩, _⟩ := five_cells Z9
         rcases hcA.out with e' | e'
         · have q3 : (cA == 171) = true := by rw [e']; rfl
           clear e'
           go_wp2_with fail
           go_ret
           exact ⟨rfl, GF.trans g9⟩
         · have q3 : (cA == 171) = false := by rw [e']; rfl
           have q4 : (cA == 170) = true := by rw [e']; rfl
           have hCw := hC.out w9 g9
           clear e'
           go_wp2_with fail
           refine hCw.mono ?_
           rintro x w10 ⟨rfl, g10⟩
           go_wp2_with fail
           go_ret
           exact ⟨rfl, (GF.trans g9).trans g10⟩
        ·
         have q1 : (cU == 0) = false := by rw [e]; rfl
         have q2 : (cU == 170) = true := by rw [e]; rfl
         have hCw := hC.out wF (Gr.refl _ _)
         clear e
         go_wp2_with fail
         refine hCw.mono ?_
         rintro x w9 ⟨rfl, g9⟩
         have Z9 := g9.keep hF3.out (fun e => e)
         have hzw9 := (Array.getElem?_eq_some_iff.1 Z9).1
         clear t0 t1 t2 t3 t4
         obtain ⟨⟨t0, t1, t2, t3, t4⟩, _⟩ := five_cells Z9
         rcases hcA.out with e' | e'
         · have q3 : (cA == 171) = true := by rw [e']; rfl
           clear e'
           go_wp2_with fail
           go_ret
           exact ⟨rfl, GF.trans g9⟩
         · have q3 : (cA == 171) = false := by rw [e']; rfl
           have q4 : (cA == 170) = true := by rw [e']; rfl
           have hCw := hC.out w9 g9
           clear e'
           go_wp2_with fail
           refine hCw.mono ?_
           rintro x w10 ⟨rfl, g10⟩
           go_wp2_with fail
           go_ret
           exact ⟨rfl, (GF.trans g9).trans g10⟩
      ·
       go_simp
       have gz := Gr.alloc wla1 (.cells zc 25) (fun _ => False)
       have Gwla1z := Gwla1.trans (gz.any _)
       have hzwla1z := heap_alloc_new wla1 (.cells zc 25)
       have TS : SM tb g i (.slice (some ⟨g, 0, none⟩) l.length lc) tk tt tn (.slice a1 n1 c1) (.slice a2 n2 c2) (wla1.alloc (.cells zc 25)) := TSb.gr Gwla1z (by omega) (by omega)
       obtain ⟨zb, hbzb⟩ : ∃ u, wla1.heap.size = u := ⟨_, rfl⟩
       have hkzb : w8.heap.size ≤ zb := by have := Gwla1.size; omega
       have rowwla1z := ownsRow_gr rowwla1 gz (fun _ _ e => e)
       have hnzwla1z : (.slice awla1 l.length cwla1 : Value).ownBlock ≠ some zb := fun e => by have := (ownsRow_lt rowwla1 zb e).2; omega
       have hlwla1z := gz.keep hlwla1 (fun e => e)
       have hnlwla1z := hnlwla1
       refine hK.out _ _ (fun _ => TS) ?_
       clear hK K gz
       rw [hbzb] at hzwla1z ⊢
       generalize wla1.alloc (.cells zc 25) = wla1z at *
       try simp only [Act.put, sa1, sa2, sa3]
       refine wpAnyL_one (i := 15) (by kernel_rfl) rfl (fun K hK => ?_)
       refine step_row i0 hi0 hzz' hz1 hz2 rfl _ _ rfl w8.heap.size (.slice awla1 l.length cwla1) l.length 1 (vs.flatMap cellsOf) ⟨lb, 0, none⟩ 1 [.int .i64 tk, .string tt, .int .i64 tn, .slice a1 n1 c1, .slice a2 n2 c2] rfl rfl rowwla1z rfl (lit_cells hlwla1z) (by simp [Value.oneCell']) (by omega) Gwla1z.size ?_
       intro vwla1z2 wla1z2 rowwla1z2 gg keep
       have Gwla1z2 := Gwla1z.trans gg
       have TS : SM tb g i (.slice (some ⟨g, 0, none⟩) l.length lc) tk tt tn (.slice a1 n1 c1) (.slice a2 n2 c2) wla1z2 := TSb.gr Gwla1z2 (by omega) (by omega)
       obtain ⟨hlwla1z2, hnlwla1z2⟩ := keep lb _ hlwla1z hnlwla1z
       obtain ⟨hzwla1z2, hnzwla1z2⟩ := keep zb _ hzwla1z hnzwla1z
       obtain ⟨awla1z2, cwla1z2, rfl⟩ := ownsRow_sv rowwla1z2
       refine hK.out _ _ (fun _ => TS) ?_
       clear hK K gg keep
       try simp only [Act.put, sa1, sa2, sa3]
       refine wpAnyL_one (i := 16) (by kernel_rfl) rfl (fun K hK => ?_)
       go_simp
       refine hK.out _ _ (fun _ => TS) ?_
       clear hK K
       try simp only [Act.put, sa1, sa2, sa3]
       refine wpAnyL_one (i := 18) (by kernel_rfl) rfl (fun K hK => ?_)
       obtain ⟨⟨_, _, _, _, _⟩, ff0, ff1, ff2, ff3, ff4⟩ := five_cells hzwla1z2
       have hzl : zb < wla1z2.heap.size := (Array.getElem?_eq_some_iff.1 hzwla1z2).1
       go_simp
       refine hK.out _ _ (fun h => absurd rfl h) ?_
       clear hK K
       try simp only [Act.put, sa1, sa2, sa3]
       refine wpAnyL_done (by kernel_rfl) ?_ _
       refine NoPanic.normal ?_
       obtain ⟨F1, F2, F3⟩ := turns_fin (l1 := l) (l2 := [U]) (vs1 := vs) (vs2 := [trv tk tt tn (.slice a1 n1 c1) (.slice a2 n2 c2)]) (v := .slice awla1z2 (l.length + 1) cwla1z2) (w := wla1z2) (zb := zb) Gwla1z2 rowwla1z2 (hP.out wla1z2 Gwla1z2).2.1 (hP.out wla1z2 Gwla1z2).2.2 (fun z hz => hz.1) hzwla1z2 hnzwla1z2 hkzb
       obtain ⟨wF, hwF⟩ : ∃ wF, set5 wla1z2 zb (.int .i64 18) (.string e0) (.int .i64 0) nl (.slice awla1z2 (l.length + 1) cwla1z2) = wF := ⟨_, rfl⟩
       rw [hwF] at F1 F2 F3
       rw [show ((((wla1z2.setCell ⟨zb, 0, none⟩ (.int .i64 18)).setCell ⟨zb, 1, none⟩ (.string e0)).setCell ⟨zb, 2, none⟩ (.int .i64 0)).setCell ⟨zb, 3, none⟩ nl).setCell ⟨zb, 4, none⟩ (.slice awla1z2 (l.length + 1) cwla1z2) = wF from hwF]
       clear hwF
       have GF : Gr (fun _ => False) W wF := G8.trans' F1 (fun k hk e => by have := G8.size; omega)
       have hzF := (Array.getElem?_eq_some_iff.1 F3).1
       have hC : Hid (∀ w, Gr (fun _ => False) wF w → Calls Tryz.prog 11 #[trv 18 e0 0 nl (.slice awla1z2 (l.length + 1) cwla1z2)] w fun e w' => e = .returned (.int .i64 cA) ∧ Gr (fun _ => False) w w') := fun w gw => by
        have h := hck.out w (GF.trans gw) _ _ (F2.gen.turn (A' := fun z => z < w.heap.size) (fun z hz hl => ⟨Nat.lt_of_lt_of_le hl gw.size, gw.block z hl (fun e => e)⟩)) hszA.out
        rw [← hca.out] at h
        exact h
       have hF3 := Lib.hid F3
       obtain ⟨⟨t0, t1, t2, t3, t4⟩, _⟩ := five_cells F3
       clear F1 F2 F3 TS TSb
       rcases hcU.out with e | e
       ·
        have q1 : (cU == 0) = true := by rw [e]; rfl
        have hCw := hC.out wF (Gr.refl _ _)
        clear e
        go_wp2_with fail
        refine hCw.mono ?_
        rintro x w9 ⟨rfl, g9⟩
        have Z9 := g9.keep hF3.out (fun e => e)
        have hzw9 := (Array.getElem?_eq_some_iff.1 Z9).1
        clear t0 t1 t2 t3 t4
        obtain ⟨⟨t0, t1, t2, t3, t4⟩, _⟩ := five_cells Z9
        rcases hcA.out with e' | e'
        · have q3 : (cA == 171) = true := by rw [e']; rfl
          clear e'
          go_wp2_with fail
          go_ret
          exact ⟨rfl, GF.trans g9⟩
        · have q3 : (cA == 171) = false := by rw [e']; rfl
          have q4 : (cA == 170) = true := by rw [e']; rfl
          have hCw := hC.out w9 g9
          clear e'
          go_wp2_with fail
          refine hCw.mono ?_
          rintro x w10 ⟨rfl, g10⟩
          go_wp2_with fail
          go_ret
          exact ⟨rfl, (GF.trans g9).trans g10⟩
       ·
        have q1 : (cU == 0) = false := by rw [e]; rfl
        have q2 : (cU == 170) = true := by rw [e]; rfl
        have hCw := hC.out wF (Gr.refl _ _)
        clear e
        go_wp2_with fail
        refine hCw.mono ?_
        rintro x w9 ⟨rfl, g9⟩
        have Z9 := g9.keep hF3.out (fun e => e)
        have hzw9 := (Array.getElem?_eq_some_iff.1 Z9).1
        clear t0 t1 t2 t3 t4
        obtain ⟨⟨t0, t1, t2, t3, t4⟩, _⟩ := five_cells Z9
        rcases hcA.out with e' | e'
        · have q3 : (cA == 171) = true := by rw [e']; rfl
          clear e'
          go_wp2_with fail
          go_ret
          exact ⟨rfl, GF.trans g9⟩
        · have q3 : (cA == 171) = false := by rw [e']; rfl
          have q4 : (cA == 170) = true := by rw [e']; rfl
          have hCw := hC.out w9 g9
          clear e'
          go_wp2_with fail
          refine hCw.mono ?_
          rintro x w10 ⟨rfl, g10⟩
          go_wp2_with fail
          go_ret
          exact ⟨rfl, (GF.trans g9).trans g10⟩
     ·
      go_simp
      have gz := Gr.alloc wla (.cells zc 25) (fun _ => False)
      have Gwlaz := Gwla.trans (gz.any _)
      have hzwlaz := heap_alloc_new wla (.cells zc 25)
      have TS : SM tb g i (.slice (some ⟨g, 0, none⟩) l.length lc) tk tt tn (.slice a1 n1 c1) (.slice a2 n2 c2) (wla.alloc (.cells zc 25)) := TSb.gr Gwlaz (by omega) (by omega)
      obtain ⟨zb, hbzb⟩ : ∃ u, wla.heap.size = u := ⟨_, rfl⟩
      have hkzb : w8.heap.size ≤ zb := by have := Gwla.size; omega
      have rowwlaz := ownsRow_gr rowwla gz (fun _ _ e => e)
      have hnzwlaz : (.slice (some ⟨gbwla, 0, none⟩) 0 0 : Value).ownBlock ≠ some zb := fun e => by have := (ownsRow_lt rowwla zb e).2; omega
      have hlwlaz := gz.keep hlwla (fun e => e)
      have hnlwlaz := hnlwla
      refine hK.out _ _ (fun _ => TS) ?_
      clear hK K gz
      rw [hbzb] at hzwlaz ⊢
      generalize wla.alloc (.cells zc 25) = wlaz at *
      try simp only [Act.put, sa1, sa2, sa3]
      refine wpAnyL_one (i := 3) (by kernel_rfl) rfl (fun K hK => ?_)
      refine step_row i0 hi0 hzz' hz1 hz2 rfl _ _ rfl w8.heap.size (.slice (some ⟨gbwla, 0, none⟩) 0 0) 0 l.length [] ⟨g, 0, none⟩ lc (vs.flatMap cellsOf) rfl rfl rowwlaz hvl.out (hP.out wlaz Gwlaz).1 hv1.out (by omega) Gwlaz.size ?_
      intro vwlaz1 wlaz1 rowwlaz1 gg keep
      rw [Nat.zero_add, List.nil_append] at rowwlaz1
      have Gwlaz1 := Gwlaz.trans gg
      have TS : SM tb g i (.slice (some ⟨g, 0, none⟩) l.length lc) tk tt tn (.slice a1 n1 c1) (.slice a2 n2 c2) wlaz1 := TSb.gr Gwlaz1 (by omega) (by omega)
      obtain ⟨hlwlaz1, hnlwlaz1⟩ := keep lb _ hlwlaz hnlwlaz
      obtain ⟨hzwlaz1, hnzwlaz1⟩ := keep zb _ hzwlaz hnzwlaz
      obtain ⟨awlaz1, cwlaz1, rfl⟩ := ownsRow_sv rowwlaz1
      refine hK.out _ _ (fun _ => TS) ?_
      clear hK K gg keep
      try simp only [Act.put, sa1, sa2, sa3]
      refine wpAnyL_one (i := 15) (by kernel_rfl) rfl (fun K hK => ?_)
      refine step_row i0 hi0 hzz' hz1 hz2 rfl _ _ rfl w8.heap.size (.slice awlaz1 l.length cwlaz1) l.length 1 (vs.flatMap cellsOf) ⟨lb, 0, none⟩ 1 [.int .i64 tk, .string tt, .int .i64 tn, .slice a1 n1 c1, .slice a2 n2 c2] rfl rfl rowwlaz1 rfl (lit_cells hlwlaz1) (by simp [Value.oneCell']) (by omega) Gwlaz1.size ?_
      intro vwlaz12 wlaz12 rowwlaz12 gg keep
      have Gwlaz12 := Gwlaz1.trans gg
      have TS : SM tb g i (.slice (some ⟨g, 0, none⟩) l.length lc) tk tt tn (.slice a1 n1 c1) (.slice a2 n2 c2) wlaz12 := TSb.gr Gwlaz12 (by omega) (by omega)
      obtain ⟨hlwlaz12, hnlwlaz12⟩ := keep lb _ hlwlaz1 hnlwlaz1
      obtain ⟨hzwlaz12, hnzwlaz12⟩ := keep zb _ hzwlaz1 hnzwlaz1
      obtain ⟨awlaz12, cwlaz12, rfl⟩ := ownsRow_sv rowwlaz12
      refine hK.out _ _ (fun _ => TS) ?_
      clear hK K gg keep
      try simp only [Act.put, sa1, sa2, sa3]
      refine wpAnyL_one (i := 16) (by kernel_rfl) rfl (fun K hK => ?_)
      go_simp
      refine hK.out _ _ (fun _ => TS) ?_
      clear hK K
      try simp only [Act.put, sa1, sa2, sa3]
      refine wpAnyL_one (i := 18) (by kernel_rfl) rfl (fun K hK => ?_)
      obtain ⟨⟨_, _, _, _, _⟩, ff0, ff1, ff2, ff3, ff4⟩ := five_cells hzwlaz12
      have hzl : zb < wlaz12.heap.size := (Array.getElem?_eq_some_iff.1 hzwlaz12).1
      go_simp
      refine hK.out _ _ (fun h => absurd rfl h) ?_
      clear hK K
      try simp only [Act.put, sa1, sa2, sa3]
      refine wpAnyL_done (by kernel_rfl) ?_ _
      refine NoPanic.normal ?_
      obtain ⟨F1, F2, F3⟩ := turns_fin (l1 := l) (l2 := [U]) (vs1 := vs) (vs2 := [trv tk tt tn (.slice a1 n1 c1) (.slice a2 n2 c2)]) (v := .slice awlaz12 (l.length + 1) cwlaz12) (w := wlaz12) (zb := zb) Gwlaz12 rowwlaz12 (hP.out wlaz12 Gwlaz12).2.1 (hP.out wlaz12 Gwlaz12).2.2 (fun z hz => hz.1) hzwlaz12 hnzwlaz12 hkzb
      obtain ⟨wF, hwF⟩ : ∃ wF, set5 wlaz12 zb (.int .i64 18) (.string e0) (.int .i64 0) nl (.slice awlaz12 (l.length + 1) cwlaz12) = wF := ⟨_, rfl⟩
      rw [hwF] at F1 F2 F3
      rw [show ((((wlaz12.setCell ⟨zb, 0, none⟩ (.int .i64 18)).setCell ⟨zb, 1, none⟩ (.string e0)).setCell ⟨zb, 2, none⟩ (.int .i64 0)).setCell ⟨zb, 3, none⟩ nl).setCell ⟨zb, 4, none⟩ (.slice awlaz12 (l.length + 1) cwlaz12) = wF from hwF]
      clear hwF
      have GF : Gr (fun _ => False) W wF := G8.trans' F1 (fun k hk e => by have := G8.size; omega)
      have hzF := (Array.getElem?_eq_some_iff.1 F3).1
      have hC : Hid (∀ w, Gr (fun _ => False) wF w → Calls Tryz.prog 11 #[trv 18 e0 0 nl (.slice awlaz12 (l.length + 1) cwlaz12)] w fun e w' => e = .returned (.int .i64 cA) ∧ Gr (fun _ => False) w w') := fun w gw => by
       have h := hck.out w (GF.trans gw) _ _ (F2.gen.turn (A' := fun z => z < w.heap.size) (fun z hz hl => ⟨Nat.lt_of_lt_of_le hl gw.size, gw.block z hl (fun e => e)⟩)) hszA.out
       rw [← hca.out] at h
       exact h
      have hF3 := Lib.hid F3
      obtain ⟨⟨t0, t1, t2, t3, t4⟩, _⟩ := five_cells F3
      clear F1 F2 F3 TS TSb
      rcases hcU.out with e | e
      ·
       have q1 : (cU == 0) = true := by rw [e]; rfl
       have hCw := hC.out wF (Gr.refl _ _)
       clear e
       go_wp2_with fail
       refine hCw.mono ?_
       rintro x w9 ⟨rfl, g9⟩
       have Z9 := g9.keep hF3.out (fun e => e)
       have hzw9 := (Array.getElem?_eq_some_iff.1 Z9).1
       clear t0 t1 t2 t3 t4
       obtain ⟨⟨t0, t1, t2, t3, t4⟩, _⟩ := five_cells Z9
       rcases hcA.out with e' | e'
       · have q3 : (cA == 171) = true := by rw [e']; rfl
         clear e'
         go_wp2_with fail
         go_ret
         exact ⟨rfl, GF.trans g9⟩
       · have q3 : (cA == 171) = false := by rw [e']; rfl
         have q4 : (cA == 170) = true := by rw [e']; rfl
         have hCw := hC.out w9 g9
         clear e'
         go_wp2_with fail
         refine hCw.mono ?_
         rintro x w10 ⟨rfl, g10⟩
         go_wp2_with fail
         go_ret
         exact ⟨rfl, (GF.trans g9).trans g10⟩
      ·
       have q1 : (cU == 0) = false := by rw [e]; rfl
       have q2 : (cU == 170) = true := by rw [e]; rfl
       have hCw := hC.out wF (Gr.refl _ _)
       clear e
       go_wp2_with fail
       refine hCw.mono ?_
       rintro x w9 ⟨rfl, g9⟩
       have Z9 := g9.keep hF3.out (fun e => e)
       have hzw9 := (Array.getElem?_eq_some_iff.1 Z9).1
       clear t0 t1 t2 t3 t4
       obtain ⟨⟨t0, t1, t2, t3, t4⟩, _⟩ := five_cells Z9
       rcases hcA.out with e' | e'
       · have q3 : (cA == 171) = true := by rw [e']; rfl
         clear e'
         go_wp2_with fail
         go_ret
         exact ⟨rfl, GF.trans g9⟩
       · have q3 : (cA == 171) = false := by rw [e']; rfl
         have q4 : (cA == 170) = true := by rw [e']; rfl
         have hCw := hC.out w9 g9
         clear e'
         go_wp2_with fail
         refine hCw.mono ?_
         rintro x w10 ⟨rfl, g10⟩
         go_wp2_with fail
         go_ret
         exact ⟨rfl, (GF.trans g9).trans g10⟩
    ·
     go_simp
     have gz := Gr.alloc wl (.cells zc 25) (fun _ => False)
     have Gwlz := Gwl.trans (gz.any _)
     have hzwlz := heap_alloc_new wl (.cells zc 25)
     have TS : SM tb g i (.slice (some ⟨g, 0, none⟩) l.length lc) tk tt tn (.slice a1 n1 c1) (.slice a2 n2 c2) (wl.alloc (.cells zc 25)) := TSb.gr Gwlz (by omega) (by omega)
     obtain ⟨zb, hbzb⟩ : ∃ u, wl.heap.size = u := ⟨_, rfl⟩
     have hkzb : w8.heap.size ≤ zb := by have := Gwl.size; omega
     have hlwlz := gz.keep hlwl (fun e => e)
     refine hK.out _ _ (fun _ => TS) ?_
     clear hK K gz
     rw [hbzb] at hzwlz ⊢
     generalize wl.alloc (.cells zc 25) = wlz at *
     try simp only [Act.put, sa1, sa2, sa3]
     refine wpAnyL_one (i := 0) (by kernel_rfl) rfl (fun K hK => ?_)
     go_simp
     have rowwlza := row_empty (w0 := wlz) (base := w8.heap.size) Gwlz.size
     have gz := Gr.alloc wlz (.cells #[] 25) (fun _ => False)
     have Gwlza := Gwlz.trans (gz.any _)
     have TS : SM tb g i (.slice (some ⟨g, 0, none⟩) l.length lc) tk tt tn (.slice a1 n1 c1) (.slice a2 n2 c2) (wlz.alloc (.cells #[] 25)) := TSb.gr Gwlza (by omega) (by omega)
     have hlwlza := gz.keep hlwlz (fun e => e)
     have hnlwlza : (Value.slice (some ⟨wlz.heap.size, 0, none⟩) 0 0).ownBlock ≠ some lb := by
      have : lb < wlz.heap.size := (Array.getElem?_eq_some_iff.1 hlwlz).1
      simp [Value.ownBlock]; omega
     have hzwlza := gz.keep hzwlz (fun e => e)
     have hnzwlza : (Value.slice (some ⟨wlz.heap.size, 0, none⟩) 0 0).ownBlock ≠ some zb := by
      have : zb < wlz.heap.size := (Array.getElem?_eq_some_iff.1 hzwlz).1
      simp [Value.ownBlock]; omega
     have hswlza : wlz.heap.size < (wlz.alloc (.cells #[] 25)).heap.size := by simp
     refine hK.out _ _ (fun _ => TS) ?_
     clear hK K gz
     generalize wlz.alloc (.cells #[] 25) = wlza at *
     obtain ⟨gbwlza, hgbwlza⟩ : ∃ u, wlz.heap.size = u := ⟨_, rfl⟩
     rw [hgbwlza] at rowwlza hnlwlza hnzwlza ⊢
     try simp only [Act.put, sa1, sa2, sa3]
     refine wpAnyL_one (i := 3) (by kernel_rfl) rfl (fun K hK => ?_)
     refine step_row i0 hi0 hzz' hz1 hz2 rfl _ _ rfl w8.heap.size (.slice (some ⟨gbwlza, 0, none⟩) 0 0) 0 l.length [] ⟨g, 0, none⟩ lc (vs.flatMap cellsOf) rfl rfl rowwlza hvl.out (hP.out wlza Gwlza).1 hv1.out (by omega) Gwlza.size ?_
     intro vwlza1 wlza1 rowwlza1 gg keep
     rw [Nat.zero_add, List.nil_append] at rowwlza1
     have Gwlza1 := Gwlza.trans gg
     have TS : SM tb g i (.slice (some ⟨g, 0, none⟩) l.length lc) tk tt tn (.slice a1 n1 c1) (.slice a2 n2 c2) wlza1 := TSb.gr Gwlza1 (by omega) (by omega)
     obtain ⟨hlwlza1, hnlwlza1⟩ := keep lb _ hlwlza hnlwlza
     obtain ⟨hzwlza1, hnzwlza1⟩ := keep zb _ hzwlza hnzwlza
     obtain ⟨awlza1, cwlza1, rfl⟩ := ownsRow_sv rowwlza1
     refine hK.out _ _ (fun _ => TS) ?_
     clear hK K gg keep
     try simp only [Act.put, sa1, sa2, sa3]
     refine wpAnyL_one (i := 15) (by kernel_rfl) rfl (fun K hK => ?_)
     refine step_row i0 hi0 hzz' hz1 hz2 rfl _ _ rfl w8.heap.size (.slice awlza1 l.length cwlza1) l.length 1 (vs.flatMap cellsOf) ⟨lb, 0, none⟩ 1 [.int .i64 tk, .string tt, .int .i64 tn, .slice a1 n1 c1, .slice a2 n2 c2] rfl rfl rowwlza1 rfl (lit_cells hlwlza1) (by simp [Value.oneCell']) (by omega) Gwlza1.size ?_
     intro vwlza12 wlza12 rowwlza12 gg keep
     have Gwlza12 := Gwlza1.trans gg
     have TS : SM tb g i (.slice (some ⟨g, 0, none⟩) l.length lc) tk tt tn (.slice a1 n1 c1) (.slice a2 n2 c2) wlza12 := TSb.gr Gwlza12 (by omega) (by omega)
     obtain ⟨hlwlza12, hnlwlza12⟩ := keep lb _ hlwlza1 hnlwlza1
     obtain ⟨hzwlza12, hnzwlza12⟩ := keep zb _ hzwlza1 hnzwlza1
     obtain ⟨awlza12, cwlza12, rfl⟩ := ownsRow_sv rowwlza12
     refine hK.out _ _ (fun _ => TS) ?_
     clear hK K gg keep
     try simp only [Act.put, sa1, sa2, sa3]
     refine wpAnyL_one (i := 16) (by kernel_rfl) rfl (fun K hK => ?_)
     go_simp
     refine hK.out _ _ (fun _ => TS) ?_
     clear hK K
     try simp only [Act.put, sa1, sa2, sa3]
     refine wpAnyL_one (i := 18) (by kernel_rfl) rfl (fun K hK => ?_)
     obtain ⟨⟨_, _, _, _, _⟩, ff0, ff1, ff2, ff3, ff4⟩ := five_cells hzwlza12
     have hzl : zb < wlza12.heap.size := (Array.getElem?_eq_some_iff.1 hzwlza12).1
     go_simp
     refine hK.out _ _ (fun h => absurd rfl h) ?_
     clear hK K
     try simp only [Act.put, sa1, sa2, sa3]
     refine wpAnyL_done (by kernel_rfl) ?_ _
     refine NoPanic.normal ?_
     obtain ⟨F1, F2, F3⟩ := turns_fin (l1 := l) (l2 := [U]) (vs1 := vs) (vs2 := [trv tk tt tn (.slice a1 n1 c1) (.slice a2 n2 c2)]) (v := .slice awlza12 (l.length + 1) cwlza12) (w := wlza12) (zb := zb) Gwlza12 rowwlza12 (hP.out wlza12 Gwlza12).2.1 (hP.out wlza12 Gwlza12).2.2 (fun z hz => hz.1) hzwlza12 hnzwlza12 hkzb
     obtain ⟨wF, hwF⟩ : ∃ wF, set5 wlza12 zb (.int .i64 18) (.string e0) (.int .i64 0) nl (.slice awlza12 (l.length + 1) cwlza12) = wF := ⟨_, rfl⟩
     rw [hwF] at F1 F2 F3
     rw [show ((((wlza12.setCell ⟨zb, 0, none⟩ (.int .i64 18)).setCell ⟨zb, 1, none⟩ (.string e0)).setCell ⟨zb, 2, none⟩ (.int .i64 0)).setCell ⟨zb, 3, none⟩ nl).setCell ⟨zb, 4, none⟩ (.slice awlza12 (l.length + 1) cwlza12) = wF from hwF]
     clear hwF
     have GF : Gr (fun _ => False) W wF := G8.trans' F1 (fun k hk e => by have := G8.size; omega)
     have hzF := (Array.getElem?_eq_some_iff.1 F3).1
     have hC : Hid (∀ w, Gr (fun _ => False) wF w → Calls Tryz.prog 11 #[trv 18 e0 0 nl (.slice awlza12 (l.length + 1) cwlza12)] w fun e w' => e = .returned (.int .i64 cA) ∧ Gr (fun _ => False) w w') := fun w gw => by
      have h := hck.out w (GF.trans gw) _ _ (F2.gen.turn (A' := fun z => z < w.heap.size) (fun z hz hl => ⟨Nat.lt_of_lt_of_le hl gw.size, gw.block z hl (fun e => e)⟩)) hszA.out
      rw [← hca.out] at h
      exact h
     have hF3 := Lib.hid F3
     obtain ⟨⟨t0, t1, t2, t3, t4⟩, _⟩ := five_cells F3
     clear F1 F2 F3 TS TSb
     rcases hcU.out with e | e
     ·
      have q1 : (cU == 0) = true := by rw [e]; rfl
      have hCw := hC.out wF (Gr.refl _ _)
      clear e
      go_wp2_with fail
      refine hCw.mono ?_
      rintro x w9 ⟨rfl, g9⟩
      have Z9 := g9.keep hF3.out (fun e => e)
      have hzw9 := (Array.getElem?_eq_some_iff.1 Z9).1
      clear t0 t1 t2 t3 t4
      obtain ⟨⟨t0, t1, t2, t3, t4⟩, _⟩ := five_cells Z9
      rcases hcA.out with e' | e'
      · have q3 : (cA == 171) = true := by rw [e']; rfl
        clear e'
        go_wp2_with fail
        go_ret
        exact ⟨rfl, GF.trans g9⟩
      · have q3 : (cA == 171) = false := by rw [e']; rfl
        have q4 : (cA == 170) = true := by rw [e']; rfl
        have hCw := hC.out w9 g9
        clear e'
        go_wp2_with fail
        refine hCw.mono ?_
        rintro x w10 ⟨rfl, g10⟩
        go_wp2_with fail
        go_ret
        exact ⟨rfl, (GF.trans g9).trans g10⟩
     ·
      have q1 : (cU == 0) = false := by rw [e]; rfl
      have q2 : (cU == 170) = true := by rw [e]; rfl
      have hCw := hC.out wF (Gr.refl _ _)
      clear e
      go_wp2_with fail
      refine hCw.mono ?_
      rintro x w9 ⟨rfl, g9⟩
      have Z9 := g9.keep hF3.out (fun e => e)
      have hzw9 := (Array.getElem?_eq_some_iff.1 Z9).1
      clear t0 t1 t2 t3 t4
      obtain ⟨⟨t0, t1, t2, t3, t4⟩, _⟩ := five_cells Z9
      rcases hcA.out with e' | e'
      · have q3 : (cA == 171) = true := by rw [e']; rfl
        clear e'
        go_wp2_with fail
        go_ret
        exact ⟨rfl, GF.trans g9⟩
      · have q3 : (cA == 171) = false := by rw [e']; rfl
        have q4 : (cA == 170) = true := by rw [e']; rfl
        have hCw := hC.out w9 g9
        clear e'
        go_wp2_with fail
        refine hCw.mono ?_
        rintro x w10 ⟨rfl, g10⟩
        go_wp2_with fail
        go_ret
        exact ⟨rfl, (GF.trans g9).trans g10⟩
   ·
    go_simp
    have gz := Gr.alloc w (.cells zc 25) (fun _ => False)
    have Gwz := Gw.trans (gz.any _)
    have hzwz := heap_alloc_new w (.cells zc 25)
    have TS : SM tb g i (.slice (some ⟨g, 0, none⟩) l.length lc) tk tt tn (.slice a1 n1 c1) (.slice a2 n2 c2) (w.alloc (.cells zc 25)) := TSb.gr Gwz (by omega) (by omega)
    obtain ⟨zb, hbzb⟩ : ∃ u, w.heap.size = u := ⟨_, rfl⟩
    have hkzb : w8.heap.size ≤ zb := by have := Gw.size; omega
    refine hK.out _ _ (fun _ => TS) ?_
    clear hK K gz
    rw [hbzb] at hzwz ⊢
    generalize w.alloc (.cells zc 25) = wz at *
    try simp only [Act.put, sa1, sa2, sa3]
    refine wpAnyL_two (i := 0) (j := 14) (by kernel_rfl) rfl rfl (fun K hK => ?_) (fun K hK => ?_)
    ·
     go_simp
     have rowwza := row_empty (w0 := wz) (base := w8.heap.size) Gwz.size
     have gz := Gr.alloc wz (.cells #[] 25) (fun _ => False)
     have Gwza := Gwz.trans (gz.any _)
     have TS : SM tb g i (.slice (some ⟨g, 0, none⟩) l.length lc) tk tt tn (.slice a1 n1 c1) (.slice a2 n2 c2) (wz.alloc (.cells #[] 25)) := TSb.gr Gwza (by omega) (by omega)
     have hzwza := gz.keep hzwz (fun e => e)
     have hnzwza : (Value.slice (some ⟨wz.heap.size, 0, none⟩) 0 0).ownBlock ≠ some zb := by
      have : zb < wz.heap.size := (Array.getElem?_eq_some_iff.1 hzwz).1
      simp [Value.ownBlock]; omega
     have hswza : wz.heap.size < (wz.alloc (.cells #[] 25)).heap.size := by simp
     refine hK.out _ _ (fun _ => TS) ?_
     clear hK K gz
     generalize wz.alloc (.cells #[] 25) = wza at *
     obtain ⟨gbwza, hgbwza⟩ : ∃ u, wz.heap.size = u := ⟨_, rfl⟩
     rw [hgbwza] at rowwza hnzwza ⊢
     try simp only [Act.put, sa1, sa2, sa3]
     refine wpAnyL_two (i := 3) (j := 14) (by kernel_rfl) rfl rfl (fun K hK => ?_) (fun K hK => ?_)
     ·
      refine step_row i0 hi0 hzz' hz1 hz2 rfl _ _ rfl w8.heap.size (.slice (some ⟨gbwza, 0, none⟩) 0 0) 0 l.length [] ⟨g, 0, none⟩ lc (vs.flatMap cellsOf) rfl rfl rowwza hvl.out (hP.out wza Gwza).1 hv1.out (by omega) Gwza.size ?_
      intro vwza1 wza1 rowwza1 gg keep
      rw [Nat.zero_add, List.nil_append] at rowwza1
      have Gwza1 := Gwza.trans gg
      have TS : SM tb g i (.slice (some ⟨g, 0, none⟩) l.length lc) tk tt tn (.slice a1 n1 c1) (.slice a2 n2 c2) wza1 := TSb.gr Gwza1 (by omega) (by omega)
      obtain ⟨hzwza1, hnzwza1⟩ := keep zb _ hzwza hnzwza
      obtain ⟨awza1, cwza1, rfl⟩ := ownsRow_sv rowwza1
      refine hK.out _ _ (fun _ => TS) ?_
      clear hK K gg keep
      try simp only [Act.put, sa1, sa2, sa3]
      refine wpAnyL_one (i := 14) (by kernel_rfl) rfl (fun K hK => ?_)
      go_simp
      have gz := Gr.alloc wza1 (.cells #[.int .i64 tk, .string tt, .int .i64 tn, .slice a1 n1 c1, .slice a2 n2 c2] 25) (fun _ => False)
      have Gwza1l := Gwza1.trans (gz.any _)
      have hlwza1l := heap_alloc_new wza1 (.cells #[.int .i64 tk, .string tt, .int .i64 tn, .slice a1 n1 c1, .slice a2 n2 c2] 25)
      have TS : SM tb g i (.slice (some ⟨g, 0, none⟩) l.length lc) tk tt tn (.slice a1 n1 c1) (.slice a2 n2 c2) (wza1.alloc (.cells #[.int .i64 tk, .string tt, .int .i64 tn, .slice a1 n1 c1, .slice a2 n2 c2] 25)) := TSb.gr Gwza1l (by omega) (by omega)
      obtain ⟨lb, hblb⟩ : ∃ u, wza1.heap.size = u := ⟨_, rfl⟩
      have hklb : w8.heap.size ≤ lb := by have := Gwza1.size; omega
      have rowwza1l := ownsRow_gr rowwza1 gz (fun _ _ e => e)
      have hnlwza1l : (.slice awza1 l.length cwza1 : Value).ownBlock ≠ some lb := fun e => by have := (ownsRow_lt rowwza1 lb e).2; omega
      have hzwza1l := gz.keep hzwza1 (fun e => e)
      have hnzwza1l := hnzwza1
      refine hK.out _ _ (fun _ => TS) ?_
      clear hK K gz
      rw [hblb] at hlwza1l ⊢
      generalize wza1.alloc (.cells #[.int .i64 tk, .string tt, .int .i64 tn, .slice a1 n1 c1, .slice a2 n2 c2] 25) = wza1l at *
      try simp only [Act.put, sa1, sa2, sa3]
      refine wpAnyL_one (i := 15) (by kernel_rfl) rfl (fun K hK => ?_)
      refine step_row i0 hi0 hzz' hz1 hz2 rfl _ _ rfl w8.heap.size (.slice awza1 l.length cwza1) l.length 1 (vs.flatMap cellsOf) ⟨lb, 0, none⟩ 1 [.int .i64 tk, .string tt, .int .i64 tn, .slice a1 n1 c1, .slice a2 n2 c2] rfl rfl rowwza1l rfl (lit_cells hlwza1l) (by simp [Value.oneCell']) (by omega) Gwza1l.size ?_
      intro vwza1l2 wza1l2 rowwza1l2 gg keep
      have Gwza1l2 := Gwza1l.trans gg
      have TS : SM tb g i (.slice (some ⟨g, 0, none⟩) l.length lc) tk tt tn (.slice a1 n1 c1) (.slice a2 n2 c2) wza1l2 := TSb.gr Gwza1l2 (by omega) (by omega)
      obtain ⟨hzwza1l2, hnzwza1l2⟩ := keep zb _ hzwza1l hnzwza1l
      obtain ⟨hlwza1l2, hnlwza1l2⟩ := keep lb _ hlwza1l hnlwza1l
      obtain ⟨awza1l2, cwza1l2, rfl⟩ := ownsRow_sv rowwza1l2
      refine hK.out _ _ (fun _ => TS) ?_
      clear hK K gg keep
      try simp only [Act.put, sa1, sa2, sa3]
      refine wpAnyL_one (i := 16) (by kernel_rfl) rfl (fun K hK => ?_)
      go_simp
      refine hK.out _ _ (fun _ => TS) ?_
      clear hK K
      try simp only [Act.put, sa1, sa2, sa3]
      refine wpAnyL_one (i := 18) (by kernel_rfl) rfl (fun K hK => ?_)
      obtain ⟨⟨_, _, _, _, _⟩, ff0, ff1, ff2, ff3, ff4⟩ := five_cells hzwza1l2
      have hzl : zb < wza1l2.heap.size := (Array.getElem?_eq_some_iff.1 hzwza1l2).1
      go_simp
      refine hK.out _ _ (fun h => absurd rfl h) ?_
      clear hK K
      try simp only [Act.put, sa1, sa2, sa3]
      refine wpAnyL_done (by kernel_rfl) ?_ _
      refine NoPanic.normal ?_
      obtain ⟨F1, F2, F3⟩ := turns_fin (l1 := l) (l2 := [U]) (vs1 := vs) (vs2 := [trv tk tt tn (.slice a1 n1 c1) (.slice a2 n2 c2)]) (v := .slice awza1l2 (l.length + 1) cwza1l2) (w := wza1l2) (zb := zb) Gwza1l2 rowwza1l2 (hP.out wza1l2 Gwza1l2).2.1 (hP.out wza1l2 Gwza1l2).2.2 (fun z hz => hz.1) hzwza1l2 hnzwza1l2 hkzb
      obtain ⟨wF, hwF⟩ : ∃ wF, set5 wza1l2 zb (.int .i64 18) (.string e0) (.int .i64 0) nl (.slice awza1l2 (l.length + 1) cwza1l2) = wF := ⟨_, rfl⟩
      rw [hwF] at F1 F2 F3
      rw [show ((((wza1l2.setCell ⟨zb, 0, none⟩ (.int .i64 18)).setCell ⟨zb, 1, none⟩ (.string e0)).setCell ⟨zb, 2, none⟩ (.int .i64 0)).setCell ⟨zb, 3, none⟩ nl).setCell ⟨zb, 4, none⟩ (.slice awza1l2 (l.length + 1) cwza1l2) = wF from hwF]
      clear hwF
      have GF : Gr (fun _ => False) W wF := G8.trans' F1 (fun k hk e => by have := G8.size; omega)
      have hzF := (Array.getElem?_eq_some_iff.1 F3).1
      have hC : Hid (∀ w, Gr (fun _ => False) wF w → Calls Tryz.prog 11 #[trv 18 e0 0 nl (.slice awza1l2 (l.length + 1) cwza1l2)] w fun e w' => e = .returned (.int .i64 cA) ∧ Gr (fun _ => False) w w') := fun w gw => by
       have h := hck.out w (GF.trans gw) _ _ (F2.gen.turn (A' := fun z => z < w.heap.size) (fun z hz hl => ⟨Nat.lt_of_lt_of_le hl gw.size, gw.block z hl (fun e => e)⟩)) hszA.out
       rw [← hca.out] at h
       exact h
      have hF3 := Lib.hid F3
      obtain ⟨⟨t0, t1, t2, t3, t4⟩, _⟩ := five_cells F3
      clear F1 F2 F3 TS TSb
      rcases hcU.out with e | e
      ·
       have q1 : (cU == 0) = true := by rw [e]; rfl
       have hCw := hC.out wF (Gr.refl _ _)
       clear e
       go_wp2_with fail
       refine hCw.mono ?_
       rintro x w9 ⟨rfl, g9⟩
       have Z9 := g9.keep hF3.out (fun e => e)
       have hzw9 := (Array.getElem?_eq_some_iff.1 Z9).1
       clear t0 t1 t2 t3 t4
       obtain ⟨⟨t0, t1, t2, t3, t4⟩, _⟩ := five_cells Z9
       rcases hcA.out with e' | e'
       · have q3 : (cA == 171) = true := by rw [e']; rfl
         clear e'
         go_wp2_with fail
         go_ret
         exact ⟨rfl, GF.trans g9⟩
       · have q3 : (cA == 171) = false := by rw [e']; rfl
         have q4 : (cA == 170) = true := by rw [e']; rfl
         have hCw := hC.out w9 g9
         clear e'
         go_wp2_with fail
         refine hCw.mono ?_
         rintro x w10 ⟨rfl, g10⟩
         go_wp2_with fail
         go_ret
         exact ⟨rfl, (GF.trans g9).trans g10⟩
      ·
       have q1 : (cU == 0) = false := by rw [e]; rfl
       have q2 : (cU == 170) = true := by rw [e]; rfl
       have hCw := hC.out wF (Gr.refl _ _)
       clear e
       go_wp2_with fail
       refine hCw.mono ?_
       rintro x w9 ⟨rfl, g9⟩
       have Z9 := g9.keep hF3.out (fun e => e)
       have hzw9 := (Array.getElem?_eq_some_iff.1 Z9).1
       clear t0 t1 t2 t3 t4
       obtain ⟨⟨t0, t1, t2, t3, t4⟩, _⟩ := five_cells Z9
       rcases hcA.out with e' | e'
       · have q3 : (cA == 171) = true := by rw [e']; rfl
         clear e'
         go_wp2_with fail
         go_ret
         exact ⟨rfl, GF.trans g9⟩
       · have q3 : (cA == 171) = false := by rw [e']; rfl
         have q4 : (cA == 170) = true := by rw [e']; rfl
         have hCw := hC.out w9 g9
         clear e'
         go_wp2_with fail
         refine hCw.mono ?_
         rintro x w10 ⟨rfl, g10⟩
         go_wp2_with fail
         go_ret
         exact ⟨rfl, (GF.trans g9).trans g10⟩
     ·
      go_simp
      have gz := Gr.alloc wza (.cells #[.int .i64 tk, .string tt, .int .i64 tn, .slice a1 n1 c1, .slice a2 n2 c2] 25) (fun _ => False)
      have Gwzal := Gwza.trans (gz.any _)
      have hlwzal := heap_alloc_new wza (.cells #[.int .i64 tk, .string tt, .int .i64 tn, .slice a1 n1 c1, .slice a2 n2 c2] 25)
      have TS : SM tb g i (.slice (some ⟨g, 0, none⟩) l.length lc) tk tt tn (.slice a1 n1 c1) (.slice a2 n2 c2) (wza.alloc (.cells #[.int .i64 tk, .string tt, .int .i64 tn, .slice a1 n1 c1, .slice a2 n2 c2] 25)) := TSb.gr Gwzal (by omega) (by omega)
      obtain ⟨lb, hblb⟩ : ∃ u, wza.heap.size = u := ⟨_, rfl⟩
      have hklb : w8.heap.size ≤ lb := by have := Gwza.size; omega
      have rowwzal := ownsRow_gr rowwza gz (fun _ _ e => e)
      have hnlwzal : (.slice (some ⟨gbwza, 0, none⟩) 0 0 : Value).ownBlock ≠ some lb := fun e => by have := (ownsRow_lt rowwza lb e).2; omega
      have hzwzal := gz.keep hzwza (fun e => e)
      have hnzwzal := hnzwza
      refine hK.out _ _ (fun _ => TS) ?_
      clear hK K gz
      rw [hblb] at hlwzal ⊢
      generalize wza.alloc (.cells #[.int .i64 tk, .string tt, .int .i64 tn, .slice a1 n1 c1, .slice a2 n2 c2] 25) = wzal at *
      try simp only [Act.put, sa1, sa2, sa3]
      refine wpAnyL_one (i := 3) (by kernel_rfl) rfl (fun K hK => ?_)
      refine step_row i0 hi0 hzz' hz1 hz2 rfl _ _ rfl w8.heap.size (.slice (some ⟨gbwza, 0, none⟩) 0 0) 0 l.length [] ⟨g, 0, none⟩ lc (vs.flatMap cellsOf) rfl rfl rowwzal hvl.out (hP.out wzal Gwzal).1 hv1.out (by omega) Gwzal.size ?_
      intro vwzal1 wzal1 rowwzal1 gg keep
      rw [Nat.zero_add, List.nil_append] at rowwzal1
      have Gwzal1 := Gwzal.trans gg
      have TS : SM tb g i (.slice (some ⟨g, 0, none⟩) l.length lc) tk tt tn (.slice a1 n1 c1) (.slice a2 n2 c2) wzal1 := TSb.gr Gwzal1 (by omega) (by omega)
      obtain ⟨hzwzal1, hnzwzal1⟩ := keep zb _ hzwzal hnzwzal
      obtain ⟨hlwzal1, hnlwzal1⟩ := keep lb _ hlwzal hnlwzal
      obtain ⟨awzal1, cwzal1, rfl⟩ := ownsRow_sv rowwzal1
      refine hK.out _ _ (fun _ => TS) ?_
      clear hK K gg keep
      try simp only [Act.put, sa1, sa2, sa3]
      refine wpAnyL_one (i := 15) (by kernel_rfl) rfl (fun K hK => ?_)
      refine step_row i0 hi0 hzz' hz1 hz2 rfl _ _ rfl w8.heap.size (.slice awzal1 l.length cwzal1) l.length 1 (vs.flatMap cellsOf) ⟨lb, 0, none⟩ 1 [.int .i64 tk, .string tt, .int .i64 tn, .slice a1 n1 c1, .slice a2 n2 c2] rfl rfl rowwzal1 rfl (lit_cells hlwzal1) (by simp [Value.oneCell']) (by omega) Gwzal1.size ?_
      intro vwzal12 wzal12 rowwzal12 gg keep
      have Gwzal12 := Gwzal1.trans gg
      have TS : SM tb g i (.slice (some ⟨g, 0, none⟩) l.length lc) tk tt tn (.slice a1 n1 c1) (.slice a2 n2 c2) wzal12 := TSb.gr Gwzal12 (by omega) (by omega)
      obtain ⟨hzwzal12, hnzwzal12⟩ := keep zb _ hzwzal1 hnzwzal1
      obtain ⟨hlwzal12, hnlwzal12⟩ := keep lb _ hlwzal1 hnlwzal1
      obtain ⟨awzal12, cwzal12, rfl⟩ := ownsRow_sv rowwzal12
      refine hK.out _ _ (fun _ => TS) ?_
      clear hK K gg keep
      try simp only [Act.put, sa1, sa2, sa3]
      refine wpAnyL_one (i := 16) (by kernel_rfl) rfl (fun K hK => ?_)
      go_simp
      refine hK.out _ _ (fun _ => TS) ?_
      clear hK K
      try simp only [Act.put, sa1, sa2, sa3]
      refine wpAnyL_one (i := 18) (by kernel_rfl) rfl (fun K hK => ?_)
      obtain ⟨⟨_, _, _, _, _⟩, ff0, ff1, ff2, ff3, ff4⟩ := five_cells hzwzal12
      have hzl : zb < wzal12.heap.size := (Array.getElem?_eq_some_iff.1 hzwzal12).1
      go_simp
      refine hK.out _ _ (fun h => absurd rfl h) ?_
      clear hK K
      try simp only [Act.put, sa1, sa2, sa3]
      refine wpAnyL_done (by kernel_rfl) ?_ _
      refine NoPanic.normal ?_
      obtain ⟨F1, F2, F3⟩ := turns_fin (l1 := l) (l2 := [U]) (vs1 := vs) (vs2 := [trv tk tt tn (.slice a1 n1 c1) (.slice a2 n2 c2)]) (v := .slice awzal12 (l.length + 1) cwzal12) (w := wzal12) (zb := zb) Gwzal12 rowwzal12 (hP.out wzal12 Gwzal12).2.1 (hP.out wzal12 Gwzal12).2.2 (fun z hz => hz.1) hzwzal12 hnzwzal12 hkzb
      obtain ⟨wF, hwF⟩ : ∃ wF, set5 wzal12 zb (.int .i64 18) (.string e0) (.int .i64 0) nl (.slice awzal12 (l.length + 1) cwzal12) = wF := ⟨_, rfl⟩
      rw [hwF] at F1 F2 F3
      rw [show ((((wzal12.setCell ⟨zb, 0, none⟩ (.int .i64 18)).setCell ⟨zb, 1, none⟩ (.string e0)).setCell ⟨zb, 2, none⟩ (.int .i64 0)).setCell ⟨zb, 3, none⟩ nl).setCell ⟨zb, 4, none⟩ (.slice awzal12 (l.length + 1) cwzal12) = wF from hwF]
      clear hwF
      have GF : Gr (fun _ => False) W wF := G8.trans' F1 (fun k hk e => by have := G8.size; omega)
      have hzF := (Array.getElem?_eq_some_iff.1 F3).1
      have hC : Hid (∀ w, Gr (fun _ => False) wF w → Calls Tryz.prog 11 #[trv 18 e0 0 nl (.slice awzal12 (l.length + 1) cwzal12)] w fun e w' => e = .returned (.int .i64 cA) ∧ Gr (fun _ => False) w w') := fun w gw => by
       have h := hck.out w (GF.trans gw) _ _ (F2.gen.turn (A' := fun z => z < w.heap.size) (fun z hz hl => ⟨Nat.lt_of_lt_of_le hl gw.size, gw.block z hl (fun e => e)⟩)) hszA.out
       rw [← hca.out] at h
       exact h
      have hF3 := Lib.hid F3
      obtain ⟨⟨t0, t1, t2, t3, t4⟩, _⟩ := five_cells F3
      clear F1 F2 F3 TS TSb
      rcases hcU.out with e | e
      ·
       have q1 : (cU == 0) = true := by rw [e]; rfl
       have hCw := hC.out wF (Gr.refl _ _)
       clear e
       go_wp2_with fail
       refine hCw.mono ?_
       rintro x w9 ⟨rfl, g9⟩
       have Z9 := g9.keep hF3.out (fun e => e)
       have hzw9 := (Array.getElem?_eq_some_iff.1 Z9).1
       clear t0 t1 t2 t3 t4
       obtain ⟨⟨t0, t1, t2, t3, t4⟩, _⟩ := five_cells Z9
       rcases hcA.out with e' | e'
       · have q3 : (cA == 171) = true := by rw [e']; rfl
         clear e'
         go_wp2_with fail
         go_ret
         exact ⟨rfl, GF.trans g9⟩
       · have q3 : (cA == 171) = false := by rw [e']; rfl
         have q4 : (cA == 170) = true := by rw [e']; rfl
         have hCw := hC.out w9 g9
         clear e'
         go_wp2_with fail
         refine hCw.mono ?_
         rintro x w10 ⟨rfl, g10⟩
         go_wp2_with fail
         go_ret
         exact ⟨rfl, (GF.trans g9).trans g10⟩
      ·
       have q1 : (cU == 0) = false := by rw [e]; rfl
       have q2 : (cU == 170) = true := by rw [e]; rfl
       have hCw := hC.out wF (Gr.refl _ _)
       clear e
       go_wp2_with fail
       refine hCw.mono ?_
       rintro x w9 ⟨rfl, g9⟩
       have Z9 := g9.keep hF3.out (fun e => e)
       have hzw9 := (Array.getElem?_eq_some_iff.1 Z9).1
       clear t0 t1 t2 t3 t4
       obtain ⟨⟨t0, t1, t2, t3, t4⟩, _⟩ := five_cells Z9
       rcases hcA.out with e' | e'
       · have q3 : (cA == 171) = true := by rw [e']; rfl
         clear e'
         go_wp2_with fail
         go_ret
         exact ⟨rfl, GF.trans g9⟩
       · have q3 : (cA == 171) = false := by rw [e']; rfl
         have q4 : (cA == 170) = true := by rw [e']; rfl
         have hCw := hC.out w9 g9
         clear e'
         go_wp2_with fail
         refine hCw.mono ?_
         rintro x w10 ⟨rfl, g10⟩
         go_wp2_with fail
         go_ret
         exact ⟨rfl, (GF.trans g9).trans g10⟩
    ·
     go_simp
     have gz := Gr.alloc wz (.cells #[.int .i64 tk, .string tt, .int .i64 tn, .slice a1 n1 c1, .slice a2 n2 c2] 25) (fun _ => False)
     have Gwzl := Gwz.trans (gz.any _)
     have hlwzl := heap_alloc_new wz (.cells #[.int .i64 tk, .string tt, .int .i64 tn, .slice a1 n1 c1, .slice a2 n2 c2] 25)
     have TS : SM tb g i (.slice (some ⟨g, 0, none⟩) l.length lc) tk tt tn (.slice a1 n1 c1) (.slice a2 n2 c2) (wz.alloc (.cells #[.int .i64 tk, .string tt, .int .i64 tn, .slice a1 n1 c1, .slice a2 n2 c2] 25)) := TSb.gr Gwzl (by omega) (by omega)
     obtain ⟨lb, hblb⟩ : ∃ u, wz.heap.size = u := ⟨_, rfl⟩
     have hklb : w8.heap.size ≤ lb := by have := Gwz.size; omega
     have hzwzl := gz.keep hzwz (fun e => e)
     refine hK.out _ _ (fun _ => TS) ?_
     clear hK K gz
     rw [hblb] at hlwzl ⊢
     generalize wz.alloc (.cells #[.int .i64 tk, .string tt, .int .i64 tn, .slice a1 n1 c1, .slice a2 n2 c2] 25) = wzl at *
     try simp only [Act.put, sa1, sa2, sa3]
     refine wpAnyL_one (i := 0) (by kernel_rfl) rfl (fun K hK => ?_)
     go_simp
     have rowwzla := row_empty (w0 := wzl) (base := w8.heap.size) Gwzl.size
     have gz := Gr.alloc wzl (.cells #[] 25) (fun _ => False)
     have Gwzla := Gwzl.trans (gz.any _)
     have TS : SM tb g i (.slice (some ⟨g, 0, none⟩) l.length lc) tk tt tn (.slice a1 n1 c1) (.slice a2 n2 c2) (wzl.alloc (.cells #[] 25)) := TSb.gr Gwzla (by omega) (by omega)
     have hzwzla := gz.keep hzwzl (fun e => e)
     have hnzwzla : (Value.slice (some ⟨wzl.heap.size, 0, none⟩) 0 0).ownBlock ≠ some zb := by
      have : zb < wzl.heap.size := (Array.getElem?_eq_some_iff.1 hzwzl).1
      simp [Value.ownBlock]; omega
     have hlwzla := gz.keep hlwzl (fun e => e)
     have hnlwzla : (Value.slice (some ⟨wzl.heap.size, 0, none⟩) 0 0).ownBlock ≠ some lb := by
      have : lb < wzl.heap.size := (Array.getElem?_eq_some_iff.1 hlwzl).1
      simp [Value.ownBlock]; omega
     have hswzla : wzl.heap.size < (wzl.alloc (.cells #[] 25)).heap.size := by simp
     refine hK.out _ _ (fun _ => TS) ?_
     clear hK K gz
     generalize wzl.alloc (.cells #[] 25) = wzla at *
     obtain ⟨gbwzla, hgbwzla⟩ : ∃ u, wzl.heap.size = u := ⟨_, rfl⟩
     rw [hgbwzla] at rowwzla hnzwzla hnlwzla ⊢
     try simp only [Act.put, sa1, sa2, sa3]
     refine wpAnyL_one (i := 3) (by kernel_rfl) rfl (fun K hK => ?_)
     refine step_row i0 hi0 hzz' hz1 hz2 rfl _ _ rfl w8.heap.size (.slice (some ⟨gbwzla, 0, none⟩) 0 0) 0 l.length [] ⟨g, 0, none⟩ lc (vs.flatMap cellsOf) rfl rfl rowwzla hvl.out (hP.out wzla Gwzla).1 hv1.out (by omega) Gwzla.size ?_
     intro vwzla1 wzla1 rowwzla1 gg keep
     rw [Nat.zero_add, List.nil_append] at rowwzla1
     have Gwzla1 := Gwzla.trans gg
     have TS : SM tb g i (.slice (some ⟨g, 0, none⟩) l.length lc) tk tt tn (.slice a1 n1 c1) (.slice a2 n2 c2) wzla1 := TSb.gr Gwzla1 (by omega) (by omega)
     obtain ⟨hzwzla1, hnzwzla1⟩ := keep zb _ hzwzla hnzwzla
     obtain ⟨hlwzla1, hnlwzla1⟩ := keep lb _ hlwzla hnlwzla
     obtain ⟨awzla1, cwzla1, rfl⟩ := ownsRow_sv rowwzla1
     refine hK.out _ _ (fun _ => TS) ?_
     clear hK K gg keep
     try simp only [Act.put, sa1, sa2, sa3]
     refine wpAnyL_one (i := 15) (by kernel_rfl) rfl (fun K hK => ?_)
     refine step_row i0 hi0 hzz' hz1 hz2 rfl _ _ rfl w8.heap.size (.slice awzla1 l.length cwzla1) l.length 1 (vs.flatMap cellsOf) ⟨lb, 0, none⟩ 1 [.int .i64 tk, .string tt, .int .i64 tn, .slice a1 n1 c1, .slice a2 n2 c2] rfl rfl rowwzla1 rfl (lit_cells hlwzla1) (by simp [Value.oneCell']) (by omega) Gwzla1.size ?_
     intro vwzla12 wzla12 rowwzla12 gg keep
     have Gwzla12 := Gwzla1.trans gg
     have TS : SM tb g i (.slice (some ⟨g, 0, none⟩) l.length lc) tk tt tn (.slice a1 n1 c1) (.slice a2 n2 c2) wzla12 := TSb.gr Gwzla12 (by omega) (by omega)
     obtain ⟨hzwzla12, hnzwzla12⟩ := keep zb _ hzwzla1 hnzwzla1
     obtain ⟨hlwzla12, hnlwzla12⟩ := keep lb _ hlwzla1 hnlwzla1
     obtain ⟨awzla12, cwzla12, rfl⟩ := ownsRow_sv rowwzla12
     refine hK.out _ _ (fun _ => TS) ?_
     clear hK K gg keep
     try simp only [Act.put, sa1, sa2, sa3]
     refine wpAnyL_one (i := 16) (by kernel_rfl) rfl (fun K hK => ?_)
     go_simp
     refine hK.out _ _ (fun _ => TS) ?_
     clear hK K
     try simp only [Act.put, sa1, sa2, sa3]
     refine wpAnyL_one (i := 18) (by kernel_rfl) rfl (fun K hK => ?_)
     obtain ⟨⟨_, _, _, _, _⟩, ff0, ff1, ff2, ff3, ff4⟩ := five_cells hzwzla12
     have hzl : zb < wzla12.heap.size := (Array.getElem?_eq_some_iff.1 hzwzla12).1
     go_simp
     refine hK.out _ _ (fun h => absurd rfl h) ?_
     clear hK K
     try simp only [Act.put, sa1, sa2, sa3]
     refine wpAnyL_done (by kernel_rfl) ?_ _
     refine NoPanic.normal ?_
     obtain ⟨F1, F2, F3⟩ := turns_fin (l1 := l) (l2 := [U]) (vs1 := vs) (vs2 := [trv tk tt tn (.slice a1 n1 c1) (.slice a2 n2 c2)]) (v := .slice awzla12 (l.length + 1) cwzla12) (w := wzla12) (zb := zb) Gwzla12 rowwzla12 (hP.out wzla12 Gwzla12).2.1 (hP.out wzla12 Gwzla12).2.2 (fun z hz => hz.1) hzwzla12 hnzwzla12 hkzb
     obtain ⟨wF, hwF⟩ : ∃ wF, set5 wzla12 zb (.int .i64 18) (.string e0) (.int .i64 0) nl (.slice awzla12 (l.length + 1) cwzla12) = wF := ⟨_, rfl⟩
     rw [hwF] at F1 F2 F3
     rw [show ((((wzla12.setCell ⟨zb, 0, none⟩ (.int .i64 18)).setCell ⟨zb, 1, none⟩ (.string e0)).setCell ⟨zb, 2, none⟩ (.int .i64 0)).setCell ⟨zb, 3, none⟩ nl).setCell ⟨zb, 4, none⟩ (.slice awzla12 (l.length + 1) cwzla12) = wF from hwF]
     clear hwF
     have GF : Gr (fun _ => False) W wF := G8.trans' F1 (fun k hk e => by have := G8.size; omega)
     have hzF := (Array.getElem?_eq_some_iff.1 F3).1
     have hC : Hid (∀ w, Gr (fun _ => False) wF w → Calls Tryz.prog 11 #[trv 18 e0 0 nl (.slice awzla12 (l.length + 1) cwzla12)] w fun e w' => e = .returned (.int .i64 cA) ∧ Gr (fun _ => False) w w') := fun w gw => by
      have h := hck.out w (GF.trans gw) _ _ (F2.gen.turn (A' := fun z => z < w.heap.size) (fun z hz hl => ⟨Nat.lt_of_lt_of_le hl gw.size, gw.block z hl (fun e => e)⟩)) hszA.out
      rw [← hca.out] at h
      exact h
     have hF3 := Lib.hid F3
     obtain ⟨⟨t0, t1, t2, t3, t4⟩, _⟩ := five_cells F3
     clear F1 F2 F3 TS TSb
     rcases hcU.out with e | e
     ·
      have q1 : (cU == 0) = true := by rw [e]; rfl
      have hCw := hC.out wF (Gr.refl _ _)
      clear e
      go_wp2_with fail
      refine hCw.mono ?_
      rintro x w9 ⟨rfl, g9⟩
      have Z9 := g9.keep hF3.out (fun e => e)
      have hzw9 := (Array.getElem?_eq_some_iff.1 Z9).1
      clear t0 t1 t2 t3 t4
      obtain ⟨⟨t0, t1, t2, t3, t4⟩, _⟩ := five_cells Z9
      rcases hcA.out with e' | e'
      · have q3 : (cA == 171) = true := by rw [e']; rfl
        clear e'
        go_wp2_with fail
        go_ret
        exact ⟨rfl, GF.trans g9⟩
      · have q3 : (cA == 171) = false := by rw [e']; rfl
        have q4 : (cA == 170) = true := by rw [e']; rfl
        have hCw := hC.out w9 g9
        clear e'
        go_wp2_with fail
        refine hCw.mono ?_
        rintro x w10 ⟨rfl, g10⟩
        go_wp2_with fail
        go_ret
        exact ⟨rfl, (GF.trans g9).trans g10⟩
     ·
      have q1 : (cU == 0) = false := by rw [e]; rfl
      have q2 : (cU == 170) = true := by rw [e]; rfl
      have hCw := hC.out wF (Gr.refl _ _)
      clear e
      go_wp2_with fail
      refine hCw.mono ?_
      rintro x w9 ⟨rfl, g9⟩
      have Z9 := g9.keep hF3.out (fun e => e)
      have hzw9 := (Array.getElem?_eq_some_iff.1 Z9).1
      clear t0 t1 t2 t3 t4
      obtain ⟨⟨t0, t1, t2, t3, t4⟩, _⟩ := five_cells Z9
      rcases hcA.out with e' | e'
      · have q3 : (cA == 171) = true := by rw [e']; rfl
        clear e'
        go_wp2_with fail
        go_ret
        exact ⟨rfl, GF.trans g9⟩
      · have q3 : (cA == 171) = false := by rw [e']; rfl
        have q4 : (cA == 170) = true := by rw [e']; rfl
        have hCw := hC.out w9 g9
        clear e'
        go_wp2_with fail
        refine hCw.mono ?_
        rintro x w10 ⟨rfl, g10⟩
        go_wp2_with fail
        go_ret
        exact ⟨rfl, (GF.trans g9).trans g10⟩
end Go.Proofs.YtjedbfbolifjjaaGreatDoor
