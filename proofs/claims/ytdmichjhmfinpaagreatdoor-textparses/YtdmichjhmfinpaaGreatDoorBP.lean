/-
  TextParses returns true for every string of bytes: the program's reading of texts answers as the reference's, the term or the place of the first fault, and the chapter's examples come out; the argument reads as before and nothing that was there is changed. Conditions: none on the input; five variables of Go's library start as the program's text lays them, which the card ties.
-/
import Derived.Test.YtdmichjhmfinpaaGreatDoorBN
import Derived.Test.YtdmichjhmfinpaaGreatDoorAV
import Derived.Test.YtdmichjhmfinpaaGreatDoorRows
import Derived.Test.YtdmichjhmfinpaaGreatDoorTie
import Derived.Test.YtdmichjhmfinpaaGreatDoorCards
import Derived.ProofKit
import Derived.OpenShut
import Derived.ChangeMaps5
import Derived.Lay
import Derived.Stop.LaidErr
import Derived.SevenTiedAt
set_option linter.unusedVariables false
set_option linter.unusedSimpArgs false
/- First: the chapter's examples come out. -/
namespace Go.Proofs.YtdmichjhmfinpaaGreatDoor
open Go.RowKit Go.Maps
variable {S S' : Nat → Prop} {W W1 W' : World}

set_option maxRecDepth 20000 in
set_option maxHeartbeats 800000 in
theorem mkInt_c (n : Int) (w : World) : Calls Tryz.prog 12 #[.int .i64 n] w fun e w' => e = .returned (lf 1 n 0 0 e0 0 0 0) ∧ Gr (fun _ => False) w w' := by
  go_enter Tryz.func12, Tryz.ntmps12
  go_wp2
  exact bodyPost_ret (v := lf 1 n 0 0 e0 0 0 0) (by simp [results, Tryz.results12, go_sem]) rfl ⟨rfl, Gr.alloc _ _ _⟩
set_option maxRecDepth 20000 in
set_option maxHeartbeats 800000 in
theorem mkAtom_c (s : ByteArray) (w : World) : Calls Tryz.prog 13 #[.string s] w fun e w' => e = .returned (lf 3 0 0 0 s 0 0 0) ∧ Gr (fun _ => False) w w' := by
  go_enter Tryz.func13, Tryz.ntmps13
  go_wp2
  exact bodyPost_ret (v := lf 3 0 0 0 s 0 0 0) (by simp [results, Tryz.results13, go_sem]) rfl ⟨rfl, Gr.alloc _ _ _⟩
set_option maxRecDepth 20000 in
set_option maxHeartbeats 800000 in
theorem bytes_c (W : World) (a : Option Addr) (c : Nat) (bs : List Int) (h : Sb W (.slice a bs.length c) bs) (hl : bs.length ≤ 900000) : Calls Tryz.prog 14 #[.slice a bs.length c] W fun e w' => ∃ xb yb, e = .returned (tv 8 0 0 0 e0 0 0 0 (.slice xb bs.length yb) nl) ∧ Ob W.heap.size w' (.slice xb bs.length yb) bs ∧ Gr (fun _ => False) W w' := by
  have hs : Sb (W.alloc (.cells #[.int .i64 0, .int .i64 0, .complex .f64 0 0, .string e0, .int .i64 0, .int .u32 0, .int .u64 0, nl, nl] 31)) (.slice a bs.length c) bs := by
    rcases h with h | ⟨a', c', e, h3⟩
    · exact .inl h
    · refine .inr ⟨a', c', e, fun j u hu => ?_⟩
      have := h3 j u hu
      rw [World.cell?_of_block (w' := W.alloc (.cells #[.int .i64 0, .int .i64 0, .complex .f64 0 0, .string e0, .int .i64 0, .int .u32 0, .int .u64 0, nl, nl] 31)) (w := W) (a := a'.add j) ((Gr.alloc W _ (fun _ => False)).block _ (World.block_lt_of_cell? W _ this) (fun e => e))]
      exact this
  have hR : Bx (W.alloc (.cells #[.int .i64 0, .int .i64 0, .complex .f64 0 0, .string e0, .int .i64 0, .int .u32 0, .int .u64 0, nl, nl] 31)) W.heap.size 0 0 0 0 e0 0 0 0 nl nl := heap_alloc_new W _
  have hs0 : (W.alloc (.cells #[.int .i64 0, .int .i64 0, .complex .f64 0 0, .string e0, .int .i64 0, .int .u32 0, .int .u64 0, nl, nl] 31)).heap.size = W.heap.size + 1 := by simp
  have g0 : Gr (fun _ => False) W (W.alloc (.cells #[.int .i64 0, .int .i64 0, .complex .f64 0 0, .string e0, .int .i64 0, .int .u32 0, .int .u64 0, nl, nl] 31)) := Gr.alloc _ _ _
  replace hR := Lib.hid hR
  replace hs0 := Lib.hid hs0
  go_enter Tryz.func14, Tryz.ntmps14
  go_wp2_with fail
  refine (cloneB_c _ _ bs hs hl).mono ?_
  rintro e w1 ⟨v1, rfl, o1, g1⟩
  obtain ⟨xb, yb, rfl⟩ := o1.sv
  have hR4 := hR.out.gr g1 (fun e => e)
  obtain ⟨q9, t9⟩ := hR4.set9 8 0 0 0 e0 0 0 0 (.slice xb bs.length yb) nl
  have y0 := hR4.froz 0 (by decide)
  have y1 := hR4.froz 1 (by decide)
  have y2 := hR4.froz 2 (by decide)
  have y3 := hR4.froz 3 (by decide)
  have y4 := hR4.froz 4 (by decide)
  have y5 := hR4.froz 5 (by decide)
  have y6 := hR4.froz 6 (by decide)
  have y7 := hR4.froz 7 (by decide)
  have y8 := hR4.froz 8 (by decide)
  have hzf := hR4.facts
  obtain ⟨p0, p1, p2, p3, p4, p5, p6, p7, p8⟩ := q9.facts
  have hso := hs0.out
  have o2 := (o1.gr t9 (fun k hk _ e => by omega)).mono (base' := W.heap.size) (by omega)
  replace o2 := Lib.hid o2
  clear hso
  go_wp2
  exact bodyPost_ret (v := tv 8 0 0 0 e0 0 0 0 (.slice xb bs.length yb) nl) (by simp [results, Tryz.results14, go_sem, p0, p1, p2, p3, p4, p5, p6, p7, p8]) rfl ⟨xb, yb, rfl, o2.out, (g0.trans g1).trans' t9 (fun i hi e => by omega)⟩

theorem parseA (W : World) (hE : Er W) : Calls Tryz.prog 6 #[.string txA] W fun e w' => ∃ k n x y s a c d a1 n1 c1 a2 c2, e = .returned (.tuple #[ts k n x y s a c d a1 n1 c1 a2 2 c2, .int .i64 0, .int .i64 0]) ∧ Gr (fun _ => False) W w' := by
  refine (parse_c txA W hE).mono ?_
  intro e w' h
  have h2 := two_A
  cases hp : parseV txA with
  | error x => rw [hp] at h2; cases h2
  | ok T =>
    rw [hp] at h h2
    obtain ⟨v, rfl, hr, hg⟩ := h
    obtain ⟨t, bs, l, a1, c1, a2, c2, rfl, rfl⟩ := hr.ts
    have hl : l.length = 2 := by simpa [isTwo] using h2
    rw [hl]
    exact ⟨_, _, _, _, _, _, _, _, _, _, _, _, _, rfl, hg⟩
theorem parseB (W : World) (hE : Er W) : Calls Tryz.prog 6 #[.string txB] W fun e w' => e = .returned (.tuple #[lf 0 0 0 0 e0 0 0 0, .int .i64 4, .int .i64 41]) ∧ Gr (fun _ => False) W w' := by
  refine (parse_c txB W hE).mono ?_
  intro e w' h
  have h2 := bad_B
  cases hp : parseV txB with
  | ok T => rw [hp] at h2; cases h2
  | error x =>
    obtain ⟨j, c⟩ := x
    rw [hp] at h h2
    obtain ⟨rfl, hg⟩ := h
    simp [isBad] at h2
    obtain ⟨rfl, rfl⟩ := h2
    exact ⟨rfl, hg⟩
theorem tuple0 (W : World) (xb : Option Addr) (yb base : Nat) (ho : Ob base W (.slice xb 2 yb) [1, 34]) :
    Calls Tryz.prog 11 #[.slice (some ⟨W.heap.size, 0, none⟩) 3 3] (W.alloc (.cells #[.int .i64 1, .int .i64 (-5), .complex .f64 0 0, .string e0, .int .i64 0, .int .u32 0, .int .u64 0, nl, nl, .int .i64 3, .int .i64 0, .complex .f64 0 0, .string okS, .int .i64 0, .int .u32 0, .int .u64 0, nl, nl, .int .i64 8, .int .i64 0, .complex .f64 0 0, .string e0, .int .i64 0, .int .u32 0, .int .u64 0, .slice xb 2 yb, nl] 31)) fun e w' => ∃ v', e = .returned v' ∧ Rep (fun k => k < w'.heap.size) w' T0 v' ∧ Gr (fun _ => False) W w' := by
  generalize hV : W.alloc _ = V
  have gV : Gr (fun _ => False) W V := hV ▸ Gr.alloc _ _ _
  have hs : V.heap.size = W.heap.size + 1 := by rw [← hV]; simp
  have hb : V.heap[W.heap.size]? = some (.cells #[.int .i64 1, .int .i64 (-5), .complex .f64 0 0, .string e0, .int .i64 0, .int .u32 0, .int .u64 0, nl, nl, .int .i64 3, .int .i64 0, .complex .f64 0 0, .string okS, .int .i64 0, .int .u32 0, .int .u64 0, nl, nl, .int .i64 8, .int .i64 0, .complex .f64 0 0, .string e0, .int .i64 0, .int .u32 0, .int .u64 0, .slice xb 2 yb, nl] 31 (0, 0)) := hV ▸ heap_alloc_new W _
  clear hV
  have hrow : RowT (fun k => k < V.heap.size) V [lf 1 (-5) 0 0 e0 0 0 0, lf 3 0 0 0 okS 0 0 0, tv 8 0 0 0 e0 0 0 0 (.slice xb 2 yb) nl] 3 (.slice (some ⟨W.heap.size, 0, none⟩) 3 3) :=
    .inr ⟨W.heap.size, 3, _, rfl, by omega, hb, Nat.le_refl _, rfl⟩
  have hrb : RowB (fun k => k < V.heap.size) V [1, 34] (.slice xb 2 yb) := (rowB_own ho.row).turn (fun k _ hlt => ⟨by omega, gV.block k hlt (fun e => e)⟩)
  have hrs : Reps (fun k => k < V.heap.size) V [T1, T2, T3] [lf 1 (-5) 0 0 e0 0 0 0, lf 3 0 0 0 okS 0 0 0, tv 8 0 0 0 e0 0 0 0 (.slice xb 2 yb) nl] := by
    refine ⟨_, _, rfl, ⟨nl, nl, [], rfl, .inl ⟨rfl, _, _, rfl⟩, .inl ⟨rfl, _, _, rfl⟩, rfl⟩, _, _, rfl, ⟨nl, nl, [], rfl, .inl ⟨rfl, _, _, rfl⟩, .inl ⟨rfl, _, _, rfl⟩, rfl⟩, _, _, rfl, ⟨_, nl, [], rfl, hrb, .inl ⟨rfl, _, _, rfl⟩, rfl⟩, rfl⟩
  refine (tuple_t (fun k => k < V.heap.size) V [T1, T2, T3] (some ⟨W.heap.size, 0, none⟩) 3 _ hrow hrs (fun k hk => hk) thin0 hgt0 okm0 6 go0).mono ?_
  rintro e w' ⟨v', rfl, hr, hg⟩
  exact ⟨v', rfl, hr.turn (fun k _ hlt => ⟨hlt, rfl⟩), gV.trans hg⟩
theorem print0 (W : World) (v : Value) (h : Rep (fun k => k < W.heap.size) W T0 v) : Calls Tryz.prog 9 #[v] W fun e w' => e = .returned (.tuple #[.string ⟨#[123, 45, 53, 44, 111, 107, 44, 34, 92, 120, 48, 49, 92, 34, 34, 125]⟩, .int .i64 0]) ∧ Gr (fun _ => False) W w' := by
  have := print_t (fun k => k < W.heap.size) W T0 v 6 _ 400000 h (fun k hk => hk) hgt0 okw0 go0 put0 (by decide) len0'
  rwa [txt0] at this

set_option maxRecDepth 100000 in
set_option maxHeartbeats 1600000 in
theorem alive_ok : AliveOk := by
  intro W hE
  go_enter Tryz.func5, Tryz.ntmps5
  go_wp2_with fail
  refine (mkInt_c _ _).mono ?_
  rintro e w1 ⟨rfl, g1⟩
  go_wp2_with fail
  refine (mkAtom_c _ _).mono ?_
  rintro e w2 ⟨rfl, g2⟩
  have hlit := (Ob.lit 0 w2 [1, 34] (by decide) (Nat.zero_le _) #[.int .u8 1, .int .u8 34] rfl 2 rfl).sb
  go_wp2_with fail
  refine (bytes_c _ _ _ [1, 34] hlit (by decide)).mono ?_
  rintro e w3 ⟨xb, yb, rfl, o3, g3⟩
  go_wp2_with fail
  refine (tuple0 w3 xb yb _ o3).mono ?_
  rintro e w5 ⟨v5, rfl, hr5, g5⟩
  go_wp2_with fail
  refine (print0 w5 v5 hr5).mono ?_
  rintro e w6 ⟨rfl, g6⟩
  have gA := ((((g1.trans g2).trans (Gr.alloc _ _ _)).trans g3).trans g5).trans g6
  have hE6 := hE.gr gA (fun e => e)
  go_wp2_with fail
  refine (parseA w6 hE6).mono ?_
  rintro e w7 ⟨sk, sn, sx, sy, sS, sa, sc, sd, a1, n1, c1, a2, c2, rfl, g7⟩
  have hE7 := hE6.gr g7 (fun e => e)
  go_wp2_with fail
  generalize hW8 : w7.alloc _ = w8
  have g8 : Gr (fun _ => False) w7 w8 := hW8 ▸ Gr.alloc _ _ _
  have hb8 : Bx w8 w7.heap.size sk sn sx sy sS sa sc sd (.slice a1 n1 c1) (.slice a2 2 c2) := hW8 ▸ heap_alloc_new w7 _
  clear hW8
  refine (parseB w8 (hE7.gr g8 (fun e => e))).mono ?_
  rintro e w9 ⟨rfl, g9⟩
  have hb9 := (hb8.gr g9 (fun e => e)).facts
  have hl9 : w7.heap.size < w9.heap.size := (hb8.gr g9 (fun e => e)).lt
  go_wp2_with fail
  go_ret
  exact ⟨rfl, (((gA.trans g7).trans g8).trans g9).trans (Gr.alloc _ _ _)⟩
end Go.Proofs.YtdmichjhmfinpaaGreatDoor
namespace Go.Proofs.YtdmichjhmfinpaaGreatDoor.textParses
open Go.ChangeShapes Go.WideShapes Go.ChangeAt Go.RowKit Go.Maps Go.ChangeMaps

theorem own : ownKnob Tryz.prog.godebug = none := by kernel_rfl
theorem gR : Tryz.prog.globalNamed "strconv.ErrRange" = some 4 := by kernel_rfl
theorem tR : (Tryz.prog.globals[4]?).map (·.type) = some 128 := by kernel_rfl
theorem star : "*" ++ "errors.errorString" = "*errors.errorString" := by decide
theorem row166 (u : TypeId) (h : Tryz.prog.typeName? 3 u = some "*errors.errorString") : u = 166 :=
  typeName_ptr_named (nm := "errors.errorString") (by rw [star]; kernel_rfl) (by kernel_rfl) (by decide) u (by rw [star]; exact h)

/-- What the condition gives the walk: the library's variable ErrRange holds an error. -/
theorem er_of_laid {W : World} (h : laidMetH Tryz.prog Rows.textParsesRow.laid W) : Er W := by
  rw [MakeChecks.laidMetH_plain _ _ _ (by kernel_rfl)] at h
  have h3 := h.tail.tail.tail
  obtain ⟨a, s, hv, -, -, -⟩ := laid_sentinel h3 gR tR Tryz.underlying128 row166 Tryz.underlying166 Tryz.underlying168 rfl rfl Tryz.underlying9 (by kernel_rfl) (by kernel_rfl)
  refine ⟨166, .pointer (some a), ?_⟩
  have := World.var?_cell gR hv 0
  simpa using this

set_option maxRecDepth 100000 in
theorem lifted (os : Os) (started : os.Started) (H : Type) (enc : TypeId × Value → H) :
    ReturnsInHanded {} Tryz.checked os 3 .any (fun w args => (Rows.textParsesSpec.pre enc Tryz.prog Tryz.f3 [] false w args ∧ laidMetH Tryz.prog Rows.textParsesRow.laid w) ∧ sizedMet enc Tryz.prog Tryz.f3 (OpenSpec.ofChange Rows.textParsesSpec) false w args)
      (Rows.textParsesSpec.post enc Tryz.prog Tryz.f3 false true false false) := by
  refine returnsInHanded_of_change_and (C := Tryz.checked) (X := fun w _ => laidMetH Tryz.prog Rows.textParsesRow.laid w) (fun _ _ _ hh h => h.of_heap hh) own started (by kernel_rfl) Tryz.func3
    (ChangeSpec.witness_shaped (enc := enc) (C := Tryz.checked) (os := os) (X := fun w _ => laidMetH Tryz.prog Rows.textParsesRow.laid w) false (World.laidAll Tryz.prog os Rows.textParsesRow.laid) #[.string ⟨#[]⟩] 8 (World.laidAll_os _ _ _) (World.shaped_of_ZipB (by kernel_rfl) (by kernel_rfl)) (by kernel_rfl) (by kernel_rfl) (by kernel_rfl)
      (by rw [MakeChecks.laidMetH_plain _ _ _ (by kernel_rfl)]; exact laidMet_laidAll _ (by kernel_rfl) (by kernel_rfl))) ?_
  intro W base args ds gs before hval0 hW _ _ hL _
  have hval : ∀ (j : Nat) t v, Tryz.f3.params[j]? = some t → args[j]? = some v → Value.okWide Tryz.prog W .any base t v := hval0
  have hW' := hW
  obtain ⟨p, q, hA0, hV, rfl, hfz, hnd⟩ := hW
  have hA : DataW.TrodAll enc Tryz.prog W 0 (fun _ => true) true Tryz.f3.params.toList args.toList ds p := hA0
  rw [Tryz.params3] at hA hval
  obtain ⟨v0, d0, rfl, rfl, h0⟩ := trodAll_one hA
  obtain ⟨rfl, rfl⟩ := trodVars_none hV
  obtain ⟨s, rfl, rfl, rfl, hs⟩ := open_string Tryz.underlying9 (hval 0 9 v0 rfl rfl) h0
  clear hA0 hval0
  simp only [List.append_nil] at hW'
  refine (parses_walk alive_ok s W (er_of_laid hL)).mono fun e W' ⟨he, hg⟩ => ?_
  subst he
  have hb : Below W.heap.size W W' := hg.below (Nat.le_refl _) (fun _ h => h.elim)
  exact ⟨_, rfl, _, _, _, [], [], [], hW', trodAll_mk1 (shut_bool Tryz.underlying4 _), trodAll_mk1 (shut_string Tryz.underlying9 hs), rfl, hb.frame _, fun h => by cases h⟩

theorem said : Rows.TextParsesSaid :=
  OpenClaim.holds_of_wide 3 Tryz.f3 rfl rfl rfl rfl rfl rfl rfl ⟨rfl, rfl, rfl, rfl, rfl⟩ rfl rfl rfl rfl rfl (by kernel_rfl) Tryz.func3 (by kernel_rfl)
    (of_decide_eq_true (by kernel_rfl)) (by unfold Func.isWrapper; first | (rw [if_pos (by decide +kernel)]; kernel_rfl) | (rw [if_neg (by decide +kernel)]; exact ⟨rfl, rfl⟩))
    (fun os started H enc _ => lifted os started H enc)

/-- The tied card. -/
theorem proved : Rows.TextParsesCardSaid :=
  Claim7.holds_tied_plain_at .later [] [.data, .data, .data, .sentinel, .sentinel] true (true, "7d80a57bc80581677c27a09602b25bab6c66a30fc7a59149a61d12c3132de8fa") true
    said (fun _ h => by cases h) (by kernel_rfl) (fun _ h => by cases h) textParses_row_tie rfl ⟨rfl, rfl⟩ (by kernel_rfl) rfl
    (fun f fn hf hfn => by
      obtain rfl : f = 3 := Option.some.inj ((show Tryz.prog.funcNamed "rookery/rookerylaw04.TextParses" = some 3 by kernel_rfl).symm.trans hf) |>.symm
      obtain rfl : fn = Tryz.f3 := (Option.some.inj (Tryz.func3.symm.trans hfn)).symm
      exact ⟨by kernel_rfl, fun j t ht => by
        rw [Tryz.params3] at ht
        have hm : t ∈ [9] := by simpa using Array.mem_of_getElem? ht
        have hall : ([9].all fun u => !Tryz.prog.wantsStandIn u) = true := by kernel_rfl
        exact (show Tryz.prog.wantsStandIn t = false by simpa using List.all_eq_true.1 hall t hm)⟩)
    (by kernel_rfl)
end Go.Proofs.YtdmichjhmfinpaaGreatDoor.textParses
namespace Go.Proofs.YtdmichjhmfinpaaGreatDoor
theorem textParses_holds : Rows.TextParsesCardSaid := textParses.proved
#print axioms textParses_holds
end Go.Proofs.YtdmichjhmfinpaaGreatDoor
