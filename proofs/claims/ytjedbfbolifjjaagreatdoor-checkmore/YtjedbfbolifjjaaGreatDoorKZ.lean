/-
  Names that are not bound: lacks of a receive.
  Names that are not bound: lacks as one function.
  Names that are not bound in a function: unbound.
-/
import Derived.Test.YtjedbfbolifjjaaGreatDoorKV
import Derived.Test.YtjedbfbolifjjaaGreatDoorKF
import Derived.Test.YtjedbfbolifjjaaGreatDoorKS
set_option linter.unusedVariables false
set_option linter.unusedSimpArgs false
namespace Go.Proofs.YtjedbfbolifjjaaGreatDoor
open Go.RowKit Go.Maps
variable {W W' : World}
abbrev SZ (ga oa : Nat) (v : Value) (w : World) : Prop := w.cell? ⟨ga, oa + 4, none⟩ = some v
/-- What lacksReceiving answers. -/
def RvIs (N : Nat) (T : Tr) (L : List ByteArray) (r : Bool × List ByteArray) : Prop := ∀ (W : World) (mb g o : Nat), Bd W mb L → N ≤ mb → TAtG N W g o T → g < N → N ≤ W.heap.size →
 Calls Tryz.prog 98 #[.map (some mb), ptr g o] W fun e w' => e = .returned (.bool r.1) ∧ (r.1 = false → Bd w' mb r.2) ∧ Gr (fun k => k = mb) W w'
set_option maxRecDepth 100000 in
set_option maxHeartbeats 1600000 in
theorem rv_plain (N : Nat) (step : Stp) (hgr : ∀ L T, (step L T).2.length ≤ L.length + (preL [T]).length) (k : Int) (s : ByteArray) (n : Int) (b : List Int) (l : List Tr) (L : List ByteArray) (ha : aftV l = false) (hl : l.length ≤ 4611686018427387904) (ih : ∀ T ∈ l, LkOk N step T) (hn : L.length + (preL l).length ≤ 1000000) : RvIs N (.mk k s n b l) L (goA step L l) := by
 intro W mb g o hB hm hT hg hN
 obtain ⟨ba, bc, la, lc, ⟨x0, x1, x2, x3, x4⟩, hrow, hgl⟩ := hT.parts
 have haf := after_c N W g o k s n b l hl hT la lc x4 hrow
 rw [show aftP l la = .pointer none from by unfold aftP; rw [ha]; rfl] at haf
 have hc := Lib.hid (fun w (gw : Gr (fun _ => False) W w) => lkAny_c N step hgr l hl ih w mb la lc L (hB.gr gw (fun e => e)) hm hn (hrow.g0 gw) (by have := gw.size; omega))
 replace haf := Lib.hid haf
 generalize goA step L l = r at hc ⊢
 obtain ⟨r1, r2⟩ := r
 dsimp only at hc ⊢
 clear hrow hT x1 x2 x3 hB ih hgr hn
 go_enter Tryz.func98, Tryz.ntmps98
 go_wp2_with fail
 refine haf.out.mono ?_
 rintro e w1 ⟨rfl, g1⟩
 have y4 := cell_gr x4 g1 (fun e => e)
 have hgw : g < w1.heap.size := by have := g1.size; omega
 go_wp2_with fail
 refine (hc.out w1 g1).mono ?_
 rintro e w2 ⟨rfl, h1, g2⟩
 replace h1 := Lib.hid h1
 go_wp2_with fail
 go_ret
 exact ⟨rfl, h1.out, (g1.any _).trans g2⟩
set_option maxRecDepth 100000 in
set_option maxHeartbeats 1600000 in
theorem rv_after (N : Nat) (step : Stp) (hgr : ∀ L T, (step L T).2.length ≤ L.length + (preL [T]).length) (k : Int) (s : ByteArray) (n : Int) (b : List Int) (l : List Tr) (L : List ByteArray) (ka : Int) (sa : ByteArray) (na : Int) (bb : List Int) (X Y : Tr) (r : List Tr) (ha : aftV l = true) (hlast : l[l.length - 1]? = some (.mk ka sa na bb (X :: Y :: r))) (hr : (r.length : Int) ≤ 4000) (hl : l.length ≤ 4611686018427387904) (q p y : Bool × List ByteArray) (hXi : LkIs N X L q) (ih : ∀ T ∈ clsV l, LkOk N step T) (hp : goA step q.2 (clsV l) = p) (hYi : LkIs N Y p.2 y) (hn : q.2.length + (preL (clsV l)).length ≤ 1000000) :
 RvIs N (.mk k s n b l) L (if q.1 then (true, q.2) else if p.1 then (true, p.2) else (y.1, p.2)) := by
 intro W mb g o hB hm hT hg hN
 obtain ⟨ba, bc, la, lc, ⟨x0, x1, x2, x3, x4⟩, hrow, hgl⟩ := hT.parts
 have haf := after_c N W g o k s n b l hl hT la lc x4 hrow
 obtain ⟨ga, o0, rfl, hga, hA⟩ := hrow _ _ hlast
 have hrowc : RowAt N W (some ⟨ga, o0, none⟩) (clsV l) := fun i T hi => hrow i T (by
  unfold clsV at hi
  rw [if_pos ha, List.dropLast_eq_take, List.getElem?_take] at hi
  split at hi
  · exact hi
  · cases hi)
 obtain ⟨oa, hoa⟩ : ∃ oa, o0 + (l.length - 1) * 5 = oa := ⟨_, rfl⟩
 rw [show aftP l (some ⟨ga, o0, none⟩) = ptr ga oa from by unfold aftP; rw [if_pos ha, ← hoa]; simp [Addr.add]] at haf
 rw [hoa] at hA
 obtain ⟨ba2, bc2, la2, lc2, ⟨_, _, _, _, xA⟩, hrowA, hgaw⟩ := hA.parts
 obtain ⟨g2, o2, rfl, hg2, hX1⟩ := hrowA 0 X rfl
 obtain ⟨g3, o3, e3, _, hY1⟩ := hrowA 1 Y rfl
 cases e3
 rw [Nat.zero_mul, Nat.add_zero] at hX1
 rw [Nat.one_mul] at hY1
 have hg2w : g2 < W.heap.size := by omega
 rw [show (X :: Y :: r).length = r.length + 2 from rfl] at xA
 have hcl : Hid (∀ w, Gr (fun k => k = mb) W w → Calls Tryz.prog 92 #[ptr g o] w fun e w' => ∃ c, e = .returned (.slice (some ⟨ga, o0, none⟩) (clsV l).length c) ∧ Gr (fun _ => False) w w') := fun w gw => clauses_c N w g o k s n b l hl (hT.gr gw (fun k hk e => by omega) hg) _ lc (cell_gr x4 gw (by omega)) (hrow.gr gw (fun k hk e => by omega))
 have hX : Hid (∀ w, Gr (fun _ => False) W w → Calls Tryz.prog 73 #[.map (some mb), ptr g2 o2] w fun e w' => e = .returned (.bool q.1) ∧ (q.1 = false → Bd w' mb q.2) ∧ Gr (fun k => k = mb) w w') := fun w gw => hXi w mb g2 o2 (hB.gr gw (fun e => e)) hm (hX1.g0 gw hg2) hg2 (by have := gw.size; omega)
 have hlc : (clsV l).length ≤ 4611686018427387904 := by
  unfold clsV; rw [if_pos ha, List.length_dropLast]; omega
 have hany : Hid (∀ w c, Gr (fun k => k = mb) W w → Bd w mb q.2 → Calls Tryz.prog 99 #[.map (some mb), .slice (some ⟨ga, o0, none⟩) (clsV l).length c] w fun e w' => e = .returned (.bool p.1) ∧ (p.1 = false → Bd w' mb p.2) ∧ Gr (fun k => k = mb) w w') := fun w c gw hb => by
  rw [← hp]
  exact lkAny_c N step hgr (clsV l) hlc ih w mb _ c q.2 hb hm hn (hrowc.gr gw (fun k hk e => by omega)) (by have := gw.size; omega)
 have hY : Hid (∀ w nb, N ≤ nb → Gr (fun k => k = mb) W w → Bd w nb p.2 → Calls Tryz.prog 73 #[.map (some nb), ptr g2 (o2 + 5)] w fun e w' => e = .returned (.bool y.1) ∧ (y.1 = false → Bd w' nb y.2) ∧ Gr (fun k => k = nb) w w') := fun w nb hnb gw hb => hYi w nb g2 (o2 + 5) hb hnb (hY1.gr gw (fun k hk e => by omega) hg2) hg2 (by have := gw.size; omega)
 obtain ⟨q1, q2⟩ := q
 obtain ⟨p1, p2⟩ := p
 obtain ⟨y1, y2⟩ := y
 dsimp only at hX hany hY ⊢
 replace haf := Lib.hid haf
 replace hB := Lib.hid hB
 clear hrow hT x0 x1 x2 x3 x4 ih hgr hn hp hXi hYi hX1 hY1 hrowA hA hrowc hlast ha hoa
 cases q1 with
 | true =>
  go_enter Tryz.func98, Tryz.ntmps98
  go_wp2_with fail
  refine haf.out.mono ?_
  rintro e w1 ⟨rfl, g1⟩
  have G1 : Gr (fun _ => False) W w1.drew := g1.trans (Gr.drew _ _)
  have TS : SZ ga oa (.slice (some ⟨g2, o2, none⟩) (r.length + 2) lc2) w1.drew := cell_gr xA G1 (fun e => e)
  go_wp2_with fail
  refine wp_region_L (L := 100) (T := SZ ga oa (.slice (some ⟨g2, o2, none⟩) (r.length + 2) lc2)) (by kernel_rfl) ?_
  refine wpAnyN_at (i := 0) (v := .map (some mb)) (some 16) rfl rfl (by kernel_rfl) (by kernel_rfl) (by kernel_rfl) (by kernel_rfl) (fun _ _ _ h => h) (Or.inl ⟨by rfl, ?_⟩) TS ?_
  · intro w hSw
    go_simp
    try (intro h; exfalso; omega)
  try simp only [Act.put, sa1, sa2, sa3]
  refine wpAnyN_at (i := 1) (v := ptr ga oa) (some 17) rfl rfl (by kernel_rfl) (by kernel_rfl) (by kernel_rfl) (by kernel_rfl) (fun _ _ _ h => h) (Or.inl ⟨by rfl, ?_⟩) TS ?_
  · intro w hSw
    go_simp
    try (intro h; exfalso; omega)
  try simp only [Act.put, sa1, sa2, sa3]
  refine wpAnyN_at (i := 2) (v := ptr ga oa) (some 18) rfl rfl (by kernel_rfl) (by kernel_rfl) (by kernel_rfl) (by kernel_rfl) (fun _ _ _ h => h) (Or.inl ⟨by rfl, ?_⟩) TS ?_
  · intro w hSw
    go_simp
    try (intro h; exfalso; omega)
  try simp only [Act.put, sa1, sa2, sa3]
  refine wpAnyN_at (i := 3) (v := ptr ga (oa + 4)) (some 19) rfl rfl (by kernel_rfl) (by kernel_rfl) (by kernel_rfl) (by kernel_rfl) (fun _ _ _ h => h) (Or.inl ⟨by rfl, ?_⟩) TS ?_
  · intro w hSw
    go_simp
    try (intro h; exfalso; omega)
  try simp only [Act.put, sa1, sa2, sa3]
  refine wpAnyN_at (i := 4) (v := .slice (some ⟨g2, o2, none⟩) (r.length + 2) lc2) (some 20) rfl rfl (by kernel_rfl) (by kernel_rfl) (by kernel_rfl) (by kernel_rfl) (fun _ _ _ h => h) (Or.inl ⟨by rfl, ?_⟩) TS ?_
  · intro w hSw
    go_simp
    try (intro h; exfalso; omega)
  try simp only [Act.put, sa1, sa2, sa3]
  refine wpAnyN_at (i := 5) (v := ptr g2 o2) (some 21) rfl rfl (by kernel_rfl) (by kernel_rfl) (by kernel_rfl) (by kernel_rfl) (fun _ _ _ h => h) (Or.inl ⟨by rfl, ?_⟩) TS ?_
  · intro w hSw
    go_simp
    try (intro h; exfalso; omega)
  try simp only [Act.put, sa1, sa2, sa3]
  refine wpAnyL_one (i := 6) (by kernel_rfl) rfl (fun K hK => ?_)
  go_simp
  refine (hX.out _ G1).mono ?_
  rintro e w2 ⟨rfl, h2, g2'⟩
  have G2 : Gr (fun k => k = mb) W w2 := (G1.any _).trans g2'
  have TS : SZ ga oa (.slice (some ⟨g2, o2, none⟩) (r.length + 2) lc2) w2 := cell_gr xA G2 (by omega)
  refine hK.out _ _ (fun _ => TS) ?_
  clear hK K
  try simp only [Act.put, sa1, sa2, sa3]
  refine wpAnyN_at (i := 7) (v := .bool true) (some 23) rfl rfl (by kernel_rfl) (by kernel_rfl) (by kernel_rfl) (by kernel_rfl) (fun _ _ _ h => h) (Or.inl ⟨by rfl, ?_⟩) TS ?_
  · intro w hSw
    go_simp
    try (intro h; exfalso; omega)
  try simp only [Act.put, sa1, sa2, sa3]
  refine wpAnyN_at (i := 8) (v := undef) (some 24) rfl rfl (by kernel_rfl) (by kernel_rfl) (by kernel_rfl) (by kernel_rfl) (fun _ _ _ h => h) (Or.inr ⟨by rfl, rfl⟩) TS ?_
  try simp only [Act.put, sa1, sa2, sa3]
  refine wpAnyN_at (i := 9) (v := undef) (some 25) rfl rfl (by kernel_rfl) (by kernel_rfl) (by kernel_rfl) (by kernel_rfl) (fun _ _ _ h => h) (Or.inr ⟨by rfl, rfl⟩) TS ?_
  try simp only [Act.put, sa1, sa2, sa3]
  refine wpAnyN_at (i := 10) (v := undef) (some 26) rfl rfl (by kernel_rfl) (by kernel_rfl) (by kernel_rfl) (by kernel_rfl) (fun _ _ _ h => h) (Or.inr ⟨by rfl, rfl⟩) TS ?_
  try simp only [Act.put, sa1, sa2, sa3]
  refine wpAnyN_at (i := 11) (v := undef) (some 27) rfl rfl (by kernel_rfl) (by kernel_rfl) (by kernel_rfl) (by kernel_rfl) (fun _ _ _ h => h) (Or.inr ⟨by rfl, rfl⟩) TS ?_
  try simp only [Act.put, sa1, sa2, sa3]
  refine wpAnyN_at (i := 12) (v := .bool true) (some 28) rfl rfl (by kernel_rfl) (by kernel_rfl) (by kernel_rfl) (by kernel_rfl) (fun _ _ _ h => h) (Or.inl ⟨by rfl, ?_⟩) TS ?_
  · intro w hSw
    go_simp
    try (intro h; exfalso; omega)
  try simp only [Act.put, sa1, sa2, sa3]
  refine wpAnyN_at (i := 13) (v := .bool true) (some 29) rfl rfl (by kernel_rfl) (by kernel_rfl) (by kernel_rfl) (by kernel_rfl) (fun _ _ _ h => h) (Or.inl ⟨by rfl, ?_⟩) TS ?_
  · intro w hSw
    go_simp
    try (intro h; exfalso; omega)
  try simp only [Act.put, sa1, sa2, sa3]
  refine wpAnyN_at (i := 14) (v := undef) (some 30) rfl rfl (by kernel_rfl) (by kernel_rfl) (by kernel_rfl) (by kernel_rfl) (fun _ _ _ h => h) (Or.inr ⟨by rfl, rfl⟩) TS ?_
  try simp only [Act.put, sa1, sa2, sa3]
  refine wpAnyN_at (i := 15) (v := undef) (some 31) rfl rfl (by kernel_rfl) (by kernel_rfl) (by kernel_rfl) (by kernel_rfl) (fun _ _ _ h => h) (Or.inr ⟨by rfl, rfl⟩) TS ?_
  try simp only [Act.put, sa1, sa2, sa3]
  refine wpAnyN_at (i := 16) (v := undef) (some 32) rfl rfl (by kernel_rfl) (by kernel_rfl) (by kernel_rfl) (by kernel_rfl) (fun _ _ _ h => h) (Or.inr ⟨by rfl, rfl⟩) TS ?_
  try simp only [Act.put, sa1, sa2, sa3]
  refine wpAnyN_at (i := 17) (v := undef) (some 33) rfl rfl (by kernel_rfl) (by kernel_rfl) (by kernel_rfl) (by kernel_rfl) (fun _ _ _ h => h) (Or.inr ⟨by rfl, rfl⟩) TS ?_
  try simp only [Act.put, sa1, sa2, sa3]
  refine wpAnyN_at (i := 18) (v := undef) (some 34) rfl rfl (by kernel_rfl) (by kernel_rfl) (by kernel_rfl) (by kernel_rfl) (fun _ _ _ h => h) (Or.inr ⟨by rfl, rfl⟩) TS ?_
  try simp only [Act.put, sa1, sa2, sa3]
  refine wpAnyN_at (i := 19) (v := undef) (some 35) rfl rfl (by kernel_rfl) (by kernel_rfl) (by kernel_rfl) (by kernel_rfl) (fun _ _ _ h => h) (Or.inr ⟨by rfl, rfl⟩) TS ?_
  try simp only [Act.put, sa1, sa2, sa3]
  refine wpAnyN_at (i := 20) (v := undef) (some 36) rfl rfl (by kernel_rfl) (by kernel_rfl) (by kernel_rfl) (by kernel_rfl) (fun _ _ _ h => h) (Or.inr ⟨by rfl, rfl⟩) TS ?_
  try simp only [Act.put, sa1, sa2, sa3]
  refine wpAnyN_at (i := 21) (v := undef) (some 37) rfl rfl (by kernel_rfl) (by kernel_rfl) (by kernel_rfl) (by kernel_rfl) (fun _ _ _ h => h) (Or.inr ⟨by rfl, rfl⟩) TS ?_
  try simp only [Act.put, sa1, sa2, sa3]
  refine wpAnyN_at (i := 22) (v := .bool true) (some 38) rfl rfl (by kernel_rfl) (by kernel_rfl) (by kernel_rfl) (by kernel_rfl) (fun _ _ _ h => h) (Or.inl ⟨by rfl, ?_⟩) TS ?_
  · intro w hSw
    go_simp
    try (intro h; exfalso; omega)
  try simp only [Act.put, sa1, sa2, sa3]
  refine wpAnyL_one (i := 23) (by kernel_rfl) rfl (fun K hK => ?_)
  go_simp
  refine hK.out _ _ (fun _ => TS) ?_
  clear hK K
  try simp only [Act.put, sa1, sa2, sa3]
  refine wpAnyL_done (by kernel_rfl) ?_ _
  refine NoPanic.normal ?_
  go_wp2_with fail
  go_ret
  exact ⟨rfl, G2⟩
 | false =>
  cases p1 with
  | true =>
   go_enter Tryz.func98, Tryz.ntmps98
   go_wp2_with fail
   refine haf.out.mono ?_
   rintro e w1 ⟨rfl, g1⟩
   have G1 : Gr (fun _ => False) W w1.drew := g1.trans (Gr.drew _ _)
   have TS : SZ ga oa (.slice (some ⟨g2, o2, none⟩) (r.length + 2) lc2) w1.drew := cell_gr xA G1 (fun e => e)
   go_wp2_with fail
   refine wp_region_L (L := 100) (T := SZ ga oa (.slice (some ⟨g2, o2, none⟩) (r.length + 2) lc2)) (by kernel_rfl) ?_
   refine wpAnyN_at (i := 0) (v := .map (some mb)) (some 16) rfl rfl (by kernel_rfl) (by kernel_rfl) (by kernel_rfl) (by kernel_rfl) (fun _ _ _ h => h) (Or.inl ⟨by rfl, ?_⟩) TS ?_
   · intro w hSw
     go_simp
     try (intro h; exfalso; omega)
   try simp only [Act.put, sa1, sa2, sa3]
   refine wpAnyN_at (i := 1) (v := ptr ga oa) (some 17) rfl rfl (by kernel_rfl) (by kernel_rfl) (by kernel_rfl) (by kernel_rfl) (fun _ _ _ h => h) (Or.inl ⟨by rfl, ?_⟩) TS ?_
   · intro w hSw
     go_simp
     try (intro h; exfalso; omega)
   try simp only [Act.put, sa1, sa2, sa3]
   refine wpAnyN_at (i := 2) (v := ptr ga oa) (some 18) rfl rfl (by kernel_rfl) (by kernel_rfl) (by kernel_rfl) (by kernel_rfl) (fun _ _ _ h => h) (Or.inl ⟨by rfl, ?_⟩) TS ?_
   · intro w hSw
     go_simp
     try (intro h; exfalso; omega)
   try simp only [Act.put, sa1, sa2, sa3]
   refine wpAnyN_at (i := 3) (v := ptr ga (oa + 4)) (some 19) rfl rfl (by kernel_rfl) (by kernel_rfl) (by kernel_rfl) (by kernel_rfl) (fun _ _ _ h => h) (Or.inl ⟨by rfl, ?_⟩) TS ?_
   · intro w hSw
     go_simp
     try (intro h; exfalso; omega)
   try simp only [Act.put, sa1, sa2, sa3]
   refine wpAnyN_at (i := 4) (v := .slice (some ⟨g2, o2, none⟩) (r.length + 2) lc2) (some 20) rfl rfl (by kernel_rfl) (by kernel_rfl) (by kernel_rfl) (by kernel_rfl) (fun _ _ _ h => h) (Or.inl ⟨by rfl, ?_⟩) TS ?_
   · intro w hSw
     go_simp
     try (intro h; exfalso; omega)
   try simp only [Act.put, sa1, sa2, sa3]
   refine wpAnyN_at (i := 5) (v := ptr g2 o2) (some 21) rfl rfl (by kernel_rfl) (by kernel_rfl) (by kernel_rfl) (by kernel_rfl) (fun _ _ _ h => h) (Or.inl ⟨by rfl, ?_⟩) TS ?_
   · intro w hSw
     go_simp
     try (intro h; exfalso; omega)
   try simp only [Act.put, sa1, sa2, sa3]
   refine wpAnyL_one (i := 6) (by kernel_rfl) rfl (fun K hK => ?_)
   go_simp
   refine (hX.out _ G1).mono ?_
   rintro e w2 ⟨rfl, h2, g2'⟩
   have G2 : Gr (fun k => k = mb) W w2 := (G1.any _).trans g2'
   have TS : SZ ga oa (.slice (some ⟨g2, o2, none⟩) (r.length + 2) lc2) w2 := cell_gr xA G2 (by omega)
   refine hK.out _ _ (fun _ => TS) ?_
   clear hK K
   try simp only [Act.put, sa1, sa2, sa3]
   replace h2 := Lib.hid (h2 (by first | rfl | trivial))
   refine wpAnyN_at (i := 7) (v := .bool false) (some 23) rfl rfl (by kernel_rfl) (by kernel_rfl) (by kernel_rfl) (by kernel_rfl) (fun _ _ _ h => h) (Or.inl ⟨by rfl, ?_⟩) TS ?_
   · intro w hSw
     go_simp
     try (intro h; exfalso; omega)
   try simp only [Act.put, sa1, sa2, sa3]
   refine wpAnyN_at (i := 8) (v := .map (some mb)) (some 24) rfl rfl (by kernel_rfl) (by kernel_rfl) (by kernel_rfl) (by kernel_rfl) (fun _ _ _ h => h) (Or.inl ⟨by rfl, ?_⟩) TS ?_
   · intro w hSw
     go_simp
     try (intro h; exfalso; omega)
   try simp only [Act.put, sa1, sa2, sa3]
   refine wpAnyN_at (i := 9) (v := ptr g o) (some 25) rfl rfl (by kernel_rfl) (by kernel_rfl) (by kernel_rfl) (by kernel_rfl) (fun _ _ _ h => h) (Or.inl ⟨by rfl, ?_⟩) TS ?_
   · intro w hSw
     go_simp
     try (intro h; exfalso; omega)
   try simp only [Act.put, sa1, sa2, sa3]
   refine wpAnyL_one (i := 10) (by kernel_rfl) rfl (fun K hK => ?_)
   go_simp
   refine (hcl.out w2 G2).mono ?_
   rintro e w3 ⟨cc, rfl, g3⟩
   have G3 : Gr (fun k => k = mb) W w3 := G2.trans (g3.any _)
   have TS : SZ ga oa (.slice (some ⟨g2, o2, none⟩) (r.length + 2) lc2) w3 := cell_gr xA G3 (by omega)
   have h3 := Lib.hid (h2.out.gr g3 (fun e => e))
   refine hK.out _ _ (fun _ => TS) ?_
   clear hK K
   try simp only [Act.put, sa1, sa2, sa3]
   refine wpAnyL_one (i := 11) (by kernel_rfl) rfl (fun K hK => ?_)
   go_simp
   refine (hany.out w3 cc G3 h3.out).mono ?_
   rintro e w4 ⟨rfl, h4, g4⟩
   have G4 : Gr (fun k => k = mb) W w4 := G3.trans g4
   have TS : SZ ga oa (.slice (some ⟨g2, o2, none⟩) (r.length + 2) lc2) w4 := cell_gr xA G4 (by omega)
   refine hK.out _ _ (fun _ => TS) ?_
   clear hK K
   try simp only [Act.put, sa1, sa2, sa3]
   refine wpAnyN_at (i := 12) (v := .bool true) (some 28) rfl rfl (by kernel_rfl) (by kernel_rfl) (by kernel_rfl) (by kernel_rfl) (fun _ _ _ h => h) (Or.inl ⟨by rfl, ?_⟩) TS ?_
   · intro w hSw
     go_simp
     try (intro h; exfalso; omega)
   try simp only [Act.put, sa1, sa2, sa3]
   refine wpAnyN_at (i := 13) (v := .bool true) (some 29) rfl rfl (by kernel_rfl) (by kernel_rfl) (by kernel_rfl) (by kernel_rfl) (fun _ _ _ h => h) (Or.inl ⟨by rfl, ?_⟩) TS ?_
   · intro w hSw
     go_simp
     try (intro h; exfalso; omega)
   try simp only [Act.put, sa1, sa2, sa3]
   refine wpAnyN_at (i := 14) (v := undef) (some 30) rfl rfl (by kernel_rfl) (by kernel_rfl) (by kernel_rfl) (by kernel_rfl) (fun _ _ _ h => h) (Or.inr ⟨by rfl, rfl⟩) TS ?_
   try simp only [Act.put, sa1, sa2, sa3]
   refine wpAnyN_at (i := 15) (v := undef) (some 31) rfl rfl (by kernel_rfl) (by kernel_rfl) (by kernel_rfl) (by kernel_rfl) (fun _ _ _ h => h) (Or.inr ⟨by rfl, rfl⟩) TS ?_
   try simp only [Act.put, sa1, sa2, sa3]
   refine wpAnyN_at (i := 16) (v := undef) (some 32) rfl rfl (by kernel_rfl) (by kernel_rfl) (by kernel_rfl) (by kernel_rfl) (fun _ _ _ h => h) (Or.inr ⟨by rfl, rfl⟩) TS ?_
   try simp only [Act.put, sa1, sa2, sa3]
   refine wpAnyN_at (i := 17) (v := undef) (some 33) rfl rfl (by kernel_rfl) (by kernel_rfl) (by kernel_rfl) (by kernel_rfl) (fun _ _ _ h => h) (Or.inr ⟨by rfl, rfl⟩) TS ?_
   try simp only [Act.put, sa1, sa2, sa3]
   refine wpAnyN_at (i := 18) (v := undef) (some 34) rfl rfl (by kernel_rfl) (by kernel_rfl) (by kernel_rfl) (by kernel_rfl) (fun _ _ _ h => h) (Or.inr ⟨by rfl, rfl⟩) TS ?_
   try simp only [Act.put, sa1, sa2, sa3]
   refine wpAnyN_at (i := 19) (v := undef) (some 35) rfl rfl (by kernel_rfl) (by kernel_rfl) (by kernel_rfl) (by kernel_rfl) (fun _ _ _ h => h) (Or.inr ⟨by rfl, rfl⟩) TS ?_
   try simp only [Act.put, sa1, sa2, sa3]
   refine wpAnyN_at (i := 20) (v := undef) (some 36) rfl rfl (by kernel_rfl) (by kernel_rfl) (by kernel_rfl) (by kernel_rfl) (fun _ _ _ h => h) (Or.inr ⟨by rfl, rfl⟩) TS ?_
   try simp only [Act.put, sa1, sa2, sa3]
   refine wpAnyN_at (i := 21) (v := undef) (some 37) rfl rfl (by kernel_rfl) (by kernel_rfl) (by kernel_rfl) (by kernel_rfl) (fun _ _ _ h => h) (Or.inr ⟨by rfl, rfl⟩) TS ?_
   try simp only [Act.put, sa1, sa2, sa3]
   refine wpAnyN_at (i := 22) (v := .bool true) (some 38) rfl rfl (by kernel_rfl) (by kernel_rfl) (by kernel_rfl) (by kernel_rfl) (fun _ _ _ h => h) (Or.inl ⟨by rfl, ?_⟩) TS ?_
   · intro w hSw
     go_simp
     try (intro h; exfalso; omega)
   try simp only [Act.put, sa1, sa2, sa3]
   refine wpAnyL_one (i := 23) (by kernel_rfl) rfl (fun K hK => ?_)
   go_simp
   refine hK.out _ _ (fun _ => TS) ?_
   clear hK K
   try simp only [Act.put, sa1, sa2, sa3]
   refine wpAnyL_done (by kernel_rfl) ?_ _
   refine NoPanic.normal ?_
   go_wp2_with fail
   go_ret
   exact ⟨rfl, G4⟩
  | false =>
   go_enter Tryz.func98, Tryz.ntmps98
   go_wp2_with fail
   refine haf.out.mono ?_
   rintro e w1 ⟨rfl, g1⟩
   have G1 : Gr (fun _ => False) W w1.drew := g1.trans (Gr.drew _ _)
   have TS : SZ ga oa (.slice (some ⟨g2, o2, none⟩) (r.length + 2) lc2) w1.drew := cell_gr xA G1 (fun e => e)
   go_wp2_with fail
   refine wp_region_L (L := 100) (T := SZ ga oa (.slice (some ⟨g2, o2, none⟩) (r.length + 2) lc2)) (by kernel_rfl) ?_
   refine wpAnyN_at (i := 0) (v := .map (some mb)) (some 16) rfl rfl (by kernel_rfl) (by kernel_rfl) (by kernel_rfl) (by kernel_rfl) (fun _ _ _ h => h) (Or.inl ⟨by rfl, ?_⟩) TS ?_
   · intro w hSw
     go_simp
     try (intro h; exfalso; omega)
   try simp only [Act.put, sa1, sa2, sa3]
   refine wpAnyN_at (i := 1) (v := ptr ga oa) (some 17) rfl rfl (by kernel_rfl) (by kernel_rfl) (by kernel_rfl) (by kernel_rfl) (fun _ _ _ h => h) (Or.inl ⟨by rfl, ?_⟩) TS ?_
   · intro w hSw
     go_simp
     try (intro h; exfalso; omega)
   try simp only [Act.put, sa1, sa2, sa3]
   refine wpAnyN_at (i := 2) (v := ptr ga oa) (some 18) rfl rfl (by kernel_rfl) (by kernel_rfl) (by kernel_rfl) (by kernel_rfl) (fun _ _ _ h => h) (Or.inl ⟨by rfl, ?_⟩) TS ?_
   · intro w hSw
     go_simp
     try (intro h; exfalso; omega)
   try simp only [Act.put, sa1, sa2, sa3]
   refine wpAnyN_at (i := 3) (v := ptr ga (oa + 4)) (some 19) rfl rfl (by kernel_rfl) (by kernel_rfl) (by kernel_rfl) (by kernel_rfl) (fun _ _ _ h => h) (Or.inl ⟨by rfl, ?_⟩) TS ?_
   · intro w hSw
     go_simp
     try (intro h; exfalso; omega)
   try simp only [Act.put, sa1, sa2, sa3]
   refine wpAnyN_at (i := 4) (v := .slice (some ⟨g2, o2, none⟩) (r.length + 2) lc2) (some 20) rfl rfl (by kernel_rfl) (by kernel_rfl) (by kernel_rfl) (by kernel_rfl) (fun _ _ _ h => h) (Or.inl ⟨by rfl, ?_⟩) TS ?_
   · intro w hSw
     go_simp
     try (intro h; exfalso; omega)
   try simp only [Act.put, sa1, sa2, sa3]
   refine wpAnyN_at (i := 5) (v := ptr g2 o2) (some 21) rfl rfl (by kernel_rfl) (by kernel_rfl) (by kernel_rfl) (by kernel_rfl) (fun _ _ _ h => h) (Or.inl ⟨by rfl, ?_⟩) TS ?_
   · intro w hSw
     go_simp
     try (intro h; exfalso; omega)
   try simp only [Act.put, sa1, sa2, sa3]
   refine wpAnyL_one (i := 6) (by kernel_rfl) rfl (fun K hK => ?_)
   go_simp
   refine (hX.out _ G1).mono ?_
   rintro e w2 ⟨rfl, h2, g2'⟩
   have G2 : Gr (fun k => k = mb) W w2 := (G1.any _).trans g2'
   have TS : SZ ga oa (.slice (some ⟨g2, o2, none⟩) (r.length + 2) lc2) w2 := cell_gr xA G2 (by omega)
   refine hK.out _ _ (fun _ => TS) ?_
   clear hK K
   try simp only [Act.put, sa1, sa2, sa3]
   replace h2 := Lib.hid (h2 (by first | rfl | trivial))
   refine wpAnyN_at (i := 7) (v := .bool false) (some 23) rfl rfl (by kernel_rfl) (by kernel_rfl) (by kernel_rfl) (by kernel_rfl) (fun _ _ _ h => h) (Or.inl ⟨by rfl, ?_⟩) TS ?_
   · intro w hSw
     go_simp
     try (intro h; exfalso; omega)
   try simp only [Act.put, sa1, sa2, sa3]
   refine wpAnyN_at (i := 8) (v := .map (some mb)) (some 24) rfl rfl (by kernel_rfl) (by kernel_rfl) (by kernel_rfl) (by kernel_rfl) (fun _ _ _ h => h) (Or.inl ⟨by rfl, ?_⟩) TS ?_
   · intro w hSw
     go_simp
     try (intro h; exfalso; omega)
   try simp only [Act.put, sa1, sa2, sa3]
   refine wpAnyN_at (i := 9) (v := ptr g o) (some 25) rfl rfl (by kernel_rfl) (by kernel_rfl) (by kernel_rfl) (by kernel_rfl) (fun _ _ _ h => h) (Or.inl ⟨by rfl, ?_⟩) TS ?_
   · intro w hSw
     go_simp
     try (intro h; exfalso; omega)
   try simp only [Act.put, sa1, sa2, sa3]
   refine wpAnyL_one (i := 10) (by kernel_rfl) rfl (fun K hK => ?_)
   go_simp
   refine (hcl.out w2 G2).mono ?_
   rintro e w3 ⟨cc, rfl, g3⟩
   have G3 : Gr (fun k => k = mb) W w3 := G2.trans (g3.any _)
   have TS : SZ ga oa (.slice (some ⟨g2, o2, none⟩) (r.length + 2) lc2) w3 := cell_gr xA G3 (by omega)
   have h3 := Lib.hid (h2.out.gr g3 (fun e => e))
   refine hK.out _ _ (fun _ => TS) ?_
   clear hK K
   try simp only [Act.put, sa1, sa2, sa3]
   refine wpAnyL_one (i := 11) (by kernel_rfl) rfl (fun K hK => ?_)
   go_simp
   refine (hany.out w3 cc G3 h3.out).mono ?_
   rintro e w4 ⟨rfl, h4, g4⟩
   have G4 : Gr (fun k => k = mb) W w4 := G3.trans g4
   have TS : SZ ga oa (.slice (some ⟨g2, o2, none⟩) (r.length + 2) lc2) w4 := cell_gr xA G4 (by omega)
   refine hK.out _ _ (fun _ => TS) ?_
   clear hK K
   try simp only [Act.put, sa1, sa2, sa3]
   replace h4 := Lib.hid (h4 (by first | rfl | trivial))
   refine wpAnyN_at (i := 12) (v := .bool false) (some 28) rfl rfl (by kernel_rfl) (by kernel_rfl) (by kernel_rfl) (by kernel_rfl) (fun _ _ _ h => h) (Or.inl ⟨by rfl, ?_⟩) TS ?_
   · intro w hSw
     go_simp
     try (intro h; exfalso; omega)
   try simp only [Act.put, sa1, sa2, sa3]
   refine wpAnyN_at (i := 13) (v := .bool false) (some 29) rfl rfl (by kernel_rfl) (by kernel_rfl) (by kernel_rfl) (by kernel_rfl) (fun _ _ _ h => h) (Or.inl ⟨by rfl, ?_⟩) TS ?_
   · intro w hSw
     go_simp
     try (intro h; exfalso; omega)
   try simp only [Act.put, sa1, sa2, sa3]
   refine wpAnyN_at (i := 14) (v := .map (some mb)) (some 30) rfl rfl (by kernel_rfl) (by kernel_rfl) (by kernel_rfl) (by kernel_rfl) (fun _ _ _ h => h) (Or.inl ⟨by rfl, ?_⟩) TS ?_
   · intro w hSw
     go_simp
     try (intro h; exfalso; omega)
   try simp only [Act.put, sa1, sa2, sa3]
   refine wpAnyN_at (i := 16) (v := ptr ga oa) (some 32) rfl rfl (by kernel_rfl) (by kernel_rfl) (by kernel_rfl) (by kernel_rfl) (fun _ _ _ h => h) (Or.inl ⟨by rfl, ?_⟩) TS ?_
   · intro w hSw
     go_simp
     try (intro h; exfalso; omega)
   try simp only [Act.put, sa1, sa2, sa3]
   refine wpAnyN_at (i := 17) (v := ptr ga oa) (some 33) rfl rfl (by kernel_rfl) (by kernel_rfl) (by kernel_rfl) (by kernel_rfl) (fun _ _ _ h => h) (Or.inl ⟨by rfl, ?_⟩) TS ?_
   · intro w hSw
     go_simp
     try (intro h; exfalso; omega)
   try simp only [Act.put, sa1, sa2, sa3]
   refine wpAnyN_at (i := 18) (v := ptr ga (oa + 4)) (some 34) rfl rfl (by kernel_rfl) (by kernel_rfl) (by kernel_rfl) (by kernel_rfl) (fun _ _ _ h => h) (Or.inl ⟨by rfl, ?_⟩) TS ?_
   · intro w hSw
     go_simp
     try (intro h; exfalso; omega)
   try simp only [Act.put, sa1, sa2, sa3]
   refine wpAnyN_at (i := 19) (v := .slice (some ⟨g2, o2, none⟩) (r.length + 2) lc2) (some 35) rfl rfl (by kernel_rfl) (by kernel_rfl) (by kernel_rfl) (by kernel_rfl) (fun _ _ _ h => h) (Or.inl ⟨by rfl, ?_⟩) TS ?_
   · intro w hSw
     go_simp
     try (intro h; exfalso; omega)
   try simp only [Act.put, sa1, sa2, sa3]
   refine wpAnyN_at (i := 20) (v := ptr g2 (o2 + 5)) (some 36) rfl rfl (by kernel_rfl) (by kernel_rfl) (by kernel_rfl) (by kernel_rfl) (fun _ _ _ h => h) (Or.inl ⟨by rfl, ?_⟩) TS ?_
   · intro w hSw
     go_simp
     try (intro h; exfalso; omega)
   try simp only [Act.put, sa1, sa2, sa3]
   refine wpAnyL_one (i := 15) (by kernel_rfl) rfl (fun K hK => ?_)
   go_simp
   refine (mclone_c w4 mb p2 h4.out).mono ?_
   rintro e w5 ⟨rfl, h5, g5⟩
   have G5 : Gr (fun k => k = mb) W w5 := G4.trans (g5.any _)
   have TS : SZ ga oa (.slice (some ⟨g2, o2, none⟩) (r.length + 2) lc2) w5 := cell_gr xA G5 (by omega)
   have h6 := Lib.hid (h4.out.gr g5 (fun e => e))
   have hs4 := G4.size
   refine hK.out _ _ (fun _ => TS) ?_
   clear hK K
   try simp only [Act.put, sa1, sa2, sa3]
   refine wpAnyL_one (i := 21) (by kernel_rfl) rfl (fun K hK => ?_)
   go_simp
   refine (hY.out w5 w4.heap.size (by omega) G5 h5).mono ?_
   rintro e w6 ⟨rfl, h7, g6⟩
   have G56 : Gr (fun _ => False) w4 w6 := g5.trans' g6 (fun k hk e => absurd e (by omega))
   have G6 : Gr (fun k => k = mb) W w6 := G4.trans (G56.any _)
   have TS : SZ ga oa (.slice (some ⟨g2, o2, none⟩) (r.length + 2) lc2) w6 := cell_gr xA G6 (by omega)
   have h8 := Lib.hid (h4.out.gr G56 (fun e => e))
   clear h7
   refine hK.out _ _ (fun _ => TS) ?_
   clear hK K
   try simp only [Act.put, sa1, sa2, sa3]
   refine wpAnyN_at (i := 22) (v := .bool y1) (some 38) rfl rfl (by kernel_rfl) (by kernel_rfl) (by kernel_rfl) (by kernel_rfl) (fun _ _ _ h => h) (Or.inl ⟨by rfl, ?_⟩) TS ?_
   · intro w hSw
     go_simp
     try (intro h; exfalso; omega)
   try simp only [Act.put, sa1, sa2, sa3]
   refine wpAnyL_one (i := 23) (by kernel_rfl) rfl (fun K hK => ?_)
   go_simp
   refine hK.out _ _ (fun _ => TS) ?_
   clear hK K
   try simp only [Act.put, sa1, sa2, sa3]
   refine wpAnyL_done (by kernel_rfl) ?_ _
   refine NoPanic.normal ?_
   go_wp2_with fail
   go_ret
   exact ⟨rfl, fun _ => h8.out, G6⟩
end Go.Proofs.YtjedbfbolifjjaaGreatDoor

namespace Go.Proofs.YtjedbfbolifjjaaGreatDoor
open Go.RowKit Go.Maps
variable {W W' : World}
set_option maxRecDepth 100000 in
set_option maxHeartbeats 1600000 in
theorem lk_recv (N : Nat) (s : ByteArray) (n : Int) (b : List Int) (l : List Tr) (L : List ByteArray) (r : Bool × List ByteArray) (h : RvIs N (.mk 13 s n b l) L r) : LkIs N (.mk 13 s n b l) L r := by
 intro W mb g o hB hm hT hg hN
 have hc := Lib.hid (h W mb g o hB hm hT hg hN)
 obtain ⟨ba, bc, la, lc, ⟨x0, x1, x2, x3, x4⟩, hrow, hgl⟩ := hT.parts
 obtain ⟨r1, r2⟩ := r
 dsimp only at hc ⊢
 clear hrow hT x1 x2 x3 x4 hB h
 go_enter Tryz.func73, Tryz.ntmps73
 go_wp2_with fail
 refine hc.out.mono ?_
 rintro e w1 ⟨rfl, h1, g1⟩
 replace h1 := Lib.hid h1
 go_wp2_with fail
 go_ret
 exact ⟨rfl, h1.out, g1⟩
/-- What lacks answers, with so much fuel. -/
def lk : Nat → Stp
 | 0, L, _ => (false, L)
 | f + 1, L, .mk k s _ _ l =>
  if k = 3 then (!inL L s, L)
  else if k = 9 then
   match l with
   | P :: X :: _ => ((lk f L X).1, putT (lk f L X).2 P)
   | _ => (false, L)
  else if k = 15 then
   match l with
   | P :: X :: _ => ((lk f (putT L P) X).1, L)
   | _ => (false, L)
  else if k = 13 ∧ aftV l = true then
   match l[l.length - 1]? with
   | some (.mk _ _ _ _ (X :: Y :: _)) => if (lk f L X).1 then (true, (lk f L X).2) else if (goA (lk f) (lk f L X).2 (clsV l)).1 then (true, (goA (lk f) (lk f L X).2 (clsV l)).2) else ((lk f (goA (lk f) (lk f L X).2 (clsV l)).2 Y).1, (goA (lk f) (lk f L X).2 (clsV l)).2)
   | _ => (false, L)
  else goA (lk f) L l
theorem goA_len (step : Stp) (hg : ∀ L T, (step L T).2.length ≤ L.length + (preL [T]).length) (l : List Tr) : ∀ L, (goA step L l).2.length ≤ L.length + (preL l).length := by
 induction l with
 | nil => intro L; exact Nat.le_add_right _ _
 | cons T l ih =>
  intro L
  have e : preL (T :: l) = preL [T] ++ preL l := preL_app [T] l
  have h1 := hg L T
  have h2 := ih (step L T).2
  rw [e, List.length_append]
  have e2 : goA step L (T :: l) = if (step L T).1 = true then (true, (step L T).2) else goA step (step L T).2 l := rfl
  rw [e2]
  split
  · dsimp only; omega
  · omega
theorem putT_len (L : List ByteArray) (P : Tr) : (putT L P).length ≤ L.length + (preL [P]).length := slL_len _ _
theorem pre_cons2 (P X : Tr) (r : List Tr) : (preL (P :: X :: r)).length = (preL [P]).length + (preL [X]).length + (preL r).length := by
 rw [show P :: X :: r = [P] ++ ([X] ++ r) from rfl, preL_app, preL_app, List.length_append, List.length_append]; omega
theorem pre_last {l : List Tr} {A : Tr} (h : l[l.length - 1]? = some A) (ha : aftV l = true) : (preL l).length = (preL (clsV l)).length + (preL [A]).length := by
 unfold clsV
 rw [if_pos ha, ← List.length_append, ← preL_app]
 congr 2
 have h2 : l.getLast? = some A := by rw [List.getLast?_eq_getElem?]; exact h
 obtain ⟨ys, rfl⟩ := List.getLast?_eq_some_iff.1 h2
 rw [List.dropLast_concat]
theorem pre_mk (k : Int) (s : ByteArray) (n : Int) (b : List Int) (l : List Tr) : (preL [.mk k s n b l]).length = (preL l).length + 1 := by
 rw [preL_cons, preL_nil, List.append_nil, List.length_cons]
theorem lk_len : ∀ (f : Nat) (L : List ByteArray) (T : Tr), (lk f L T).2.length ≤ L.length + (preL [T]).length
 | 0, L, T => Nat.le_add_right _ _
 | f + 1, L, .mk k s n b l => by
  have ih := lk_len f
  rw [pre_mk]
  unfold lk
  split
  · dsimp only; omega
  split
  · split
    · rename_i P X r
      have h1 := ih L X
      have h2 := putT_len (lk f L X).2 P
      rw [pre_cons2]; dsimp only; omega
    · dsimp only; omega
  split
  · split <;> (dsimp only; omega)
  split
  ·
   rename_i hc
   split
   ·
    rename_i ka sa na bb X Y r hA
    have h1 := ih L X
    have h2 := goA_len (lk f) ih (clsV l) (lk f L X).2
    have h3 := pre_last hA hc.2
    rw [pre_mk, pre_cons2] at h3
    split
    · dsimp only; omega
    split <;> (dsimp only; omega)
   · dsimp only; omega
  · have := goA_len (lk f) ih l L; omega
/-- What lacks asks of the parts that it takes apart. -/
def lkQ : Tr → Prop
 | .mk k _ _ _ l => l.length ≤ 4000 ∧ (k = 9 ∨ k = 15 ∨ k = 14 → ∃ P X r, l = P :: X :: r)
theorem mem_pre {l : List Tr} {U : Tr} (h : U ∈ l) : ∀ V ∈ preL [U], V ∈ preL l := by
 obtain ⟨p, q, rfl⟩ := List.append_of_mem h
 intro V hV
 rw [preL_app, show U :: q = [U] ++ q from rfl, preL_app]
 simp [hV]
theorem pre_mem {l : List Tr} {U : Tr} (h : U ∈ l) : (preL [U]).length ≤ (preL l).length := by
 obtain ⟨p, q, rfl⟩ := List.append_of_mem h
 rw [preL_app, show U :: q = [U] ++ q from rfl, preL_app]
 simp; omega
theorem lk_ok (N : Nat) : ∀ (f : Nat) (T : Tr), Szs [T] → (∀ U ∈ preL [T], lkQ U) → (preL [T]).length ≤ f → LkOk N (lk f) T
 | 0, .mk k s n b l, _, _, hf => by rw [pre_mk] at hf; omega
 | f + 1, .mk k s n b l, hs, hq, hf => by
  have hself : Tr.mk k s n b l ∈ preL [Tr.mk k s n b l] := by rw [preL_cons]; simp
  have hsub : ∀ U ∈ l, ∀ V ∈ preL [U], V ∈ preL [Tr.mk k s n b l] := fun U hU V hV => by
   rw [preL_cons, preL_nil, List.append_nil]
   exact List.mem_cons_of_mem _ (mem_pre hU V hV)
  rw [pre_mk] at hf
  have ihl : ∀ U ∈ l, LkOk N (lk f) U := fun U hU => lk_ok N f U (fun V hV => hs V (hsub U hU V hV)) (fun V hV => hq V (hsub U hU V hV)) (by have := pre_mem hU; omega)
  obtain ⟨hl4, hsh⟩ := hq _ hself
  have hsz := hs _ hself
  intro W mb g o L hB hm hn hT hg hN
  rw [pre_mk] at hn
  have toIs : ∀ (U : Tr) (L' : List ByteArray), U ∈ l → L'.length + (preL [U]).length ≤ 1000000 → LkIs N U L' (lk f L' U) := fun U L' hU hn' W mb g o hB hm hT hg hN => ihl U hU W mb g o L' hB hm hn' hT hg hN
  by_cases h3 : k = 3
  · subst h3
    have := lk_name N s n b l L hsz.1 W mb g o hB hm hT hg hN
    rw [show lk (f + 1) L (.mk 3 s n b l) = (!inL L s, L) from by (conv => lhs; unfold lk); rw [if_pos rfl]]
    exact this
  by_cases h9 : k = 9
  ·
   subst h9
   obtain ⟨P, X, r, rfl⟩ := hsh (.inl rfl)
   rw [pre_cons2] at hn
   have hx := toIs X L (by simp) (by omega)
   have h1 := lk_len f L X
   have hr : ((r.length : Nat) : Int) ≤ 4000 := by simp at hl4; omega
   have := lk_equal N s n b P X r L _ hr hx (fun V hV => hs V (hsub P (by simp) V hV)) (by omega) W mb g o hB hm hT hg hN
   rw [show lk (f + 1) L (.mk 9 s n b (P :: X :: r)) = ((lk f L X).1, putT (lk f L X).2 P) from by (conv => lhs; unfold lk); rw [if_neg (by decide), if_pos rfl]]
   exact this
  by_cases h15 : k = 15
  ·
   subst h15
   obtain ⟨P, X, r, rfl⟩ := hsh (.inr (.inl rfl))
   rw [pre_cons2] at hn
   have h1 := putT_len L P
   have hx := toIs X (putT L P) (by simp) (by omega)
   have hr : ((r.length : Nat) : Int) ≤ 4000 := by simp at hl4; omega
   have := lk_clause N s n b P X r L _ hr hx (fun V hV => hs V (hsub P (by simp) V hV)) (by omega) W mb g o hB hm hT hg hN
   rw [show lk (f + 1) L (.mk 15 s n b (P :: X :: r)) = ((lk f (putT L P) X).1, L) from by (conv => lhs; unfold lk); rw [if_neg (by decide), if_neg (by decide), if_pos rfl]]
   exact this
  by_cases h13 : k = 13
  ·
   subst h13
   cases ha : aftV l with
   | false =>
    have := lk_recv N s n b l L _ (rv_plain N (lk f) (lk_len f) 13 s n b l L ha hsz.2 ihl (by omega)) W mb g o hB hm hT hg hN
    rw [show lk (f + 1) L (.mk 13 s n b l) = goA (lk f) L l from by (conv => lhs; unfold lk); rw [if_neg (by decide), if_neg (by decide), if_neg (by decide), if_neg (by rw [ha]; simp)]]
    exact this
   | true =>
    obtain ⟨A, hA⟩ : ∃ A, l.getLast? = some A := by
     cases h : l.getLast? with
     | none => unfold aftV at ha; rw [h] at ha; cases ha
     | some A => exact ⟨A, rfl⟩
    have hAl : l[l.length - 1]? = some A := by rw [← List.getLast?_eq_getElem?]; exact hA
    have hAm : A ∈ l := List.mem_of_getElem? hAl
    have hk14 : isK 14 A = true := by unfold aftV at ha; rw [hA] at ha; exact ha
    obtain ⟨ka, sa, na, bb, al⟩ := A
    have hka : ka = 14 := by simpa [isK] using hk14
    obtain ⟨hla, hsa⟩ := hq (.mk ka sa na bb al) (hsub _ hAm (.mk ka sa na bb al) (by rw [preL_cons]; simp))
    obtain ⟨X, Y, r, rfl⟩ := hsa (.inr (.inr hka))
    have hpl := pre_last hAl ha
    rw [pre_mk, pre_cons2] at hpl
    have hsub2 : ∀ U ∈ X :: Y :: r, ∀ V ∈ preL [U], V ∈ preL [Tr.mk 13 s n b l] := fun U hU V hV => hsub _ hAm V (by
     rw [preL_cons, preL_nil, List.append_nil]
     exact List.mem_cons_of_mem _ (mem_pre hU V hV))
    have isU : ∀ (U : Tr) (L' : List ByteArray), U ∈ X :: Y :: r → (preL [U]).length ≤ f → L'.length + (preL [U]).length ≤ 1000000 → LkIs N U L' (lk f L' U) := fun U L' hU hf' hn' W mb g o hB hm hT hg hN => lk_ok N f U (fun V hV => hs V (hsub2 U hU V hV)) (fun V hV => hq V (hsub2 U hU V hV)) hf' W mb g o L' hB hm hn' hT hg hN
    have e1 := lk_len f L X
    have e2 := goA_len (lk f) (lk_len f) (clsV l) (lk f L X).2
    have hr : ((r.length : Nat) : Int) ≤ 4000 := by simp at hla; omega
    have := lk_recv N s n b l L _ (rv_after N (lk f) (lk_len f) 13 s n b l L ka sa na bb X Y r ha hAl hr hsz.2 (lk f L X) (goA (lk f) (lk f L X).2 (clsV l)) (lk f (goA (lk f) (lk f L X).2 (clsV l)).2 Y) (isU X L (by simp) (by omega) (by omega)) (fun T hT => ihl T (by
     unfold clsV at hT
     rw [if_pos ha] at hT
     exact (List.dropLast_sublist l).subset hT)) rfl (isU Y _ (by simp) (by omega) (by omega)) (by omega)) W mb g o hB hm hT hg hN
    rw [show lk (f + 1) L (.mk 13 s n b l) = (if (lk f L X).1 then (true, (lk f L X).2) else if (goA (lk f) (lk f L X).2 (clsV l)).1 then (true, (goA (lk f) (lk f L X).2 (clsV l)).2) else ((lk f (goA (lk f) (lk f L X).2 (clsV l)).2 Y).1, (goA (lk f) (lk f L X).2 (clsV l)).2)) from by (conv => lhs; unfold lk); rw [if_neg (by decide), if_neg (by decide), if_neg (by decide), if_pos ⟨rfl, ha⟩, hAl]]
    exact this
  have := lk_parts N (lk f) (lk_len f) k s n b l L h3 h9 h15 h13 hsz.2 ihl (by omega) W mb g o hB hm hT hg hN
  rw [show lk (f + 1) L (.mk k s n b l) = goA (lk f) L l from by (conv => lhs; unfold lk); rw [if_neg h3, if_neg h9, if_neg h15, if_neg (fun e => h13 e.1)]]
  exact this
end Go.Proofs.YtjedbfbolifjjaaGreatDoor

namespace Go.Proofs.YtjedbfbolifjjaaGreatDoor
open Go.RowKit Go.Maps
variable {W W' : World}
/-- The names of one tree after the other. -/
def putsT (L : List ByteArray) (l : List Tr) : List ByteArray := l.foldl putT L
theorem putsT_len (l : List Tr) : ∀ L, (putsT L l).length ≤ L.length + (preL l).length := by
 induction l with
 | nil => intro L; exact Nat.le_add_right _ _
 | cons T l ih =>
  intro L
  have e : preL (T :: l) = preL [T] ++ preL l := preL_app [T] l
  have h1 := putT_len L T
  have h2 := ih (putT L T)
  rw [e, List.length_append]
  show (putsT (putT L T) l).length ≤ _
  omega
def unbV : Tr → Bool
 | .mk k _ _ _ l => (k == 17) && ((l.getLast?.map fun B => (lk 30000 (putsT [] l.dropLast) B).1).getD false)
set_option maxRecDepth 100000 in
set_option maxHeartbeats 1600000 in
theorem unb_c (N : Nat) : So N 53 #[] (fun _ => True) (fun T => Szs [T] ∧ (∀ U ∈ preL [T], lkQ U ∧ (U.k = 17 → U.l ≠ [])) ∧ (preL [T]).length ≤ 30000) unbV := by
 refine ⟨ent_of Tryz.func53 (by kernel_rfl) rfl, fun _ _ _ _ => trivial, fun W g o T _ hs hT hg hN => ?_⟩
 obtain ⟨k, s, n, b, l⟩ := T
 obtain ⟨hs, hq, hpl⟩ := hs
 have hself : Tr.mk k s n b l ∈ preL [Tr.mk k s n b l] := by rw [preL_cons]; simp
 obtain ⟨⟨hl4, _⟩, hne⟩ := hq _ hself
 dsimp only at hne
 rw [pre_mk] at hpl
 have hsub : ∀ U ∈ l, ∀ V ∈ preL [U], V ∈ preL [Tr.mk k s n b l] := fun U hU V hV => by
  rw [preL_cons, preL_nil, List.append_nil]
  exact List.mem_cons_of_mem _ (mem_pre hU V hV)
 obtain ⟨ba, bc, la, lc, ⟨x0, x1, x2, x3, x4⟩, hrow, hgl⟩ := hT.parts
 show Calls Tryz.prog 53 #[ptr g o] W fun e w' => e = .returned (.bool ((k == 17) && ((l.getLast?.map fun B => (lk 30000 (putsT [] l.dropLast) B).1).getD false))) ∧ Gr (fun _ => False) W w'
 by_cases hk : k = 17
 case neg =>
  have hk' : (k == 17) = false := by simpa using hk
  rw [hk']
  clear hrow hT x1 x2 x3 x4 hs hq hne hsub
  go_enter Tryz.func53, Tryz.ntmps53
  go_wp2_with fail
  go_ret
  exact ⟨rfl, Gr.refl _ _⟩
 subst hk
 have hne := hne rfl
 obtain ⟨B, hB⟩ : ∃ B, l.getLast? = some B := by
  cases h : l.getLast? with
  | none => exact absurd (List.getLast?_eq_none_iff.1 h) hne
  | some B => exact ⟨B, rfl⟩
 obtain ⟨p, rfl⟩ := List.getLast?_eq_some_iff.1 hB
 rw [hB, List.dropLast_concat]
 show Calls Tryz.prog 53 #[ptr g o] W fun e w' => e = .returned (.bool (lk 30000 (putsT [] p) B).1) ∧ Gr (fun _ => False) W w'
 have hlen : (p ++ [B]).length = p.length + 1 := by simp
 have hh := head_c N (W.alloc (.map #[] 0)) g o _ s n b _ (hT.g0 (Gr.alloc W _ _) hg) (by omega)
 rw [hlen] at hh x4
 rw [show ((p.length + 1 : Nat) : Int) - 1 = (p.length : Int) by omega] at hh
 have hmI : (p.length : Int) ≤ 4000 := by omega
 have gM := Gr.alloc W (.map #[] 0) (fun _ => False)
 have hB0 := Bd.new W
 have y4 := cell_gr x4 gM (fun e => e)
 obtain ⟨mb, hmb⟩ : ∃ mb, W.heap.size = mb := ⟨_, rfl⟩
 have hpre : (preL (p ++ [B])).length = (preL p).length + (preL [B]).length := by rw [preL_app, List.length_append]
 obtain ⟨gb, ob, rfl, hgb, hBt⟩ := hrow p.length B (by simp)
 have hlk : Hid (∀ w L, Gr (fun _ => False) W w → Bd w mb L → L.length ≤ (preL p).length → Calls Tryz.prog 73 #[.map (some mb), ptr gb (ob + p.length * 5)] w fun e w' => e = .returned (.bool (lk 30000 L B).1) ∧ ((lk 30000 L B).1 = false → Bd w' mb (lk 30000 L B).2) ∧ Gr (fun k => k = mb) w w') := fun w L gw hb hL =>
  lk_ok N 30000 B (fun V hV => hs V (hsub B (by simp) V hV)) (fun V hV => (hq V (hsub B (by simp) V hV)).1) (by omega) w mb gb _ L hb (by omega) (by omega) (hBt.g0 gw hgb) hgb (by have := gw.size; omega)
 have hput : Hid (∀ w L i U, p[i]? = some U → Gr (fun _ => False) W w → Bd w mb L → L.length ≤ (preL (p.take i)).length → Calls Tryz.prog 72 #[.map (some mb), ptr gb (ob + i * 5)] w fun e w' => e = .returned (.tuple #[]) ∧ Bd w' mb (putT L U) ∧ Gr (fun k => k = mb) w w') := fun w L i U hU gw hb hL => by
  have hm : U ∈ p ++ [B] := List.mem_append_left _ (List.mem_of_getElem? hU)
  obtain ⟨g', o', e', _, hU'⟩ := hrow i U (by rw [List.getElem?_append_left (List.getElem?_eq_some_iff.1 hU).1]; exact hU)
  cases e'
  have hx : (preL (p.take i)).length + (preL [U]).length ≤ (preL p).length := by
   have e : p = p.take i ++ (U :: p.drop (i + 1)) := by
    obtain ⟨h2, rfl⟩ := List.getElem?_eq_some_iff.1 hU
    rw [List.getElem_cons_drop, List.take_append_drop]
   have e2 : preL p = preL (p.take i) ++ (preL [U] ++ preL (p.drop (i + 1))) := by
    rw [← preL_app, ← preL_app]; congr 1
   rw [e2, List.length_append, List.length_append]; omega
  exact putAll_c N U (fun V hV => hs V (hsub U hm V hV)) w mb gb _ L hb (by omega) (hU'.g0 gw hgb) hgb (by omega)
 have hbw : gb < W.heap.size := by
  obtain ⟨v, h1, h2⟩ := hBt
  obtain ⟨tk, tt, tn, a1, n1, c1, a2, n2, c2, rfl⟩ := h1.agg
  exact World.block_lt_of_cell? _ _ (h2 0 _ rfl)
 have hfd := fun m w => fld61 s m w
 have hmm : ∀ w, (Instr.makeMap 66 none).run Tryz.prog w = .ok (.map (some w.heap.size)) (w.alloc (.map #[] 0)) := fun _ => rfl
 have hgm : g < (W.alloc (.map #[] 0)).heap.size := by have := gM.size; omega
 obtain ⟨r, hr⟩ : ∃ r, r = (lk 30000 (putsT [] p) B).1 := ⟨_, rfl⟩
 rw [← hr]
 replace hr := Lib.hid hr
 rw [hmb] at hB0
 replace hh := Lib.hid hh
 replace hB0 := Lib.hid hB0
 clear hT hrow x1 x2 x3 hs hq hne hsub hB hBt hpl hl4 hpre hlen
 go_enter Tryz.func53, Tryz.ntmps53
 go_wp2_with fail
 refine hh.out.mono ?_
 rintro e w1 ⟨rfl, g1⟩
 have G1 : Gr (fun _ => False) W w1 := gM.trans g1
 have hb1 := Lib.hid (hB0.out.gr g1 (fun e => e))
 try rw [hmb]
 clear hmm hh hB0 y4 gM hgm
 go_wp2_with fail
 go_loopw [16] (fun u wr => ∃ i : Nat, i ≤ p.length ∧ u = .int .i64 (i : Int) ∧ Hid (Bd wr mb (putsT [] (p.take i))) ∧ Gr (fun _ => False) W wr) (fun u _ => p.length - (intOf u).toNat)
 case atStart => exact ⟨0, Nat.zero_le _, rfl, by show Bd _ _ _; rw [List.take_zero]; exact hb1.out, G1⟩
 case round =>
  obtain ⟨i, hi, rfl, hBi, hG⟩ := hrel
  have z4 := cell_gr x4 hG (fun e => e)
  have hsz := hG.size
  have hgw : g < wr.heap.size := by omega
  have hgw' : gb < wr.heap.size := by omega
  by_cases hlt : i < p.length
  ·
   have hd : decide ((i : Int) < (p.length : Int)) = true := by simp; omega
   have hTi : p[i]? = some p[i] := List.getElem?_eq_getElem hlt
   have hc := Lib.hid (hput.out wr _ i _ hTi hG hBi.out (by have := putsT_len (p.take i) []; simpa using this))
   have est : putsT [] (p.take (i + 1)) = putT (putsT [] (p.take i)) p[i] := by
    unfold putsT; rw [List.take_add_one, hTi, List.foldl_append]; rfl
   have hb := Lib.hid hi
   clear hTi
   go_wp2_with fail
   refine hc.out.mono ?_
   rintro e w4 ⟨rfl, h4, g4⟩
   rw [← est] at h4
   replace h4 := Lib.hid h4
   have G4 : Gr (fun _ => False) W w4 := hG.trans' g4 (fun k hk e => absurd e (by omega))
   go_wp2_with fail
   exact ⟨⟨i + 1, hlt, by go_num, h4, G4⟩, by simp [intOf]; omega⟩
  ·
   have hd : decide ((i : Int) < (p.length : Int)) = false := by simp; omega
   obtain rfl : i = p.length := by omega
   have hbb := hBi.out
   rw [List.take_length] at hbb
   have hc := hlk.out wr _ hG hbb (by have := putsT_len p []; simpa using this)
   rw [← hr.out] at hc
   replace hc := Lib.hid hc
   clear hbb
   go_wp2_with fail
   refine hc.out.mono ?_
   rintro e w4 ⟨rfl, h4, g4⟩
   have G4 : Gr (fun _ => False) W w4 := hG.trans' g4 (fun k hk e => absurd e (by omega))
   clear h4
   go_wp2_with fail
   go_ret
   exact ⟨rfl, G4⟩
end Go.Proofs.YtjedbfbolifjjaaGreatDoor
