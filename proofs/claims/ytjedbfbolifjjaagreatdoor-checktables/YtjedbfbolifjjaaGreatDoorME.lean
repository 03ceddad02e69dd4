/-
  What the passes of Check ask.
-/
import Derived.Test.YtjedbfbolifjjaaGreatDoorMD
import Derived.Test.YtjedbfbolifjjaaGreatDoorKI
import Derived.Test.YtjedbfbolifjjaaGreatDoorKQ
set_option linter.unusedVariables false
set_option linter.unusedSimpArgs false
namespace Go.Proofs.YtjedbfbolifjjaaGreatDoor
open Go.RowKit Go.Maps
variable {W W' : World}
theorem cell_one (W : World) (v : Value) (t : TypeId) : (W.alloc (.cells #[v] t)).cell? ⟨W.heap.size, 0, none⟩ = some v := by
  have h := heap_alloc_new W (.cells #[v] t)
  unfold World.cell?; rw [h]; rfl
set_option maxRecDepth 100000 in
set_option maxHeartbeats 1600000 in
theorem unc_c (W : World) (mb : Nat) : Calls Tryz.prog 55 #[.map (some mb)] W fun e w' => e = .returned (.func (.func 74) #[] #[ptr W.heap.size 0]) ∧ w' = W.alloc (.cells #[.map (some mb)] 73) := by
  go_enter Tryz.func55, Tryz.ntmps55
  go_wp2_with fail
  go_ret
  exact ⟨rfl, rfl⟩
set_option maxRecDepth 100000 in
set_option maxHeartbeats 1600000 in
theorem some_c (W : World) (n u : Nat) : Calls Tryz.prog 40 #[.func (.func n) #[] #[], ptr u 0] W fun e w' => e = .returned (.func (.func 41) #[] #[ptr u 0, ptr W.heap.size 0]) ∧ w' = W.alloc (.cells #[.func (.func n) #[] #[]] 69) := by
  go_enter Tryz.func40, Tryz.ntmps40
  go_wp2_with fail
  go_ret
  exact ⟨rfl, rfl⟩
/-- A pass that asks anyPart. -/
def AnyIs (n g o : Nat) (caps : Array Value) (r : Bool) (W : World) : Prop := Calls Tryz.prog 42 #[ptr g o, .func (.func n) #[] caps] W fun e w' => e = .returned (.bool r) ∧ Gr (fun _ => False) W w'
set_option maxRecDepth 100000 in
set_option maxHeartbeats 1600000 in
theorem pany_c (W : World) (n u v g o : Nat) (r : Bool) (xu : W.cell? ⟨u, 0, none⟩ = some (ptr g o)) (xv : W.cell? ⟨v, 0, none⟩ = some (.func (.func n) #[] #[])) (h : AnyIs n g o #[] r W) : Calls Tryz.prog 41 #[ptr u 0, ptr v 0] W fun e w' => e = .returned (.bool r) ∧ Gr (fun _ => False) W w' := by
  have hu := World.block_lt_of_cell? _ _ xu
  have hv := World.block_lt_of_cell? _ _ xv
  dsimp only at hu hv
  unfold AnyIs at h
  replace h := Lib.hid h
  go_enter Tryz.func41, Tryz.ntmps41
  go_wp2_with fail
  refine h.out.mono ?_
  rintro e w1 ⟨rfl, g1⟩
  go_wp2_with fail
  go_ret
  exact ⟨rfl, g1⟩
set_option maxRecDepth 100000 in
set_option maxHeartbeats 1600000 in
theorem pcrowd_c (N : Nat) (W : World) (u g o : Nat) (T : Tr) (xu : W.cell? ⟨u, 0, none⟩ = some (ptr g o)) (hs : Szs [T]) (hT : TAtG N W g o T) (hg : g < N) (hN : N ≤ W.heap.size) : Calls Tryz.prog 43 #[ptr u 0] W fun e w' => e = .returned (.bool (crowdV T)) ∧ Gr (fun _ => False) W w' := by
  have hu := World.block_lt_of_cell? _ _ xu
  dsimp only at hu
  have h := Lib.hid (crowded_c N T hs W g o hT hg hN)
  clear hT
  go_enter Tryz.func43, Tryz.ntmps43
  go_wp2_with fail
  refine h.out.mono ?_
  rintro e w1 ⟨rfl, g1⟩
  go_wp2_with fail
  go_ret
  exact ⟨rfl, g1⟩
set_option maxRecDepth 100000 in
set_option maxHeartbeats 1600000 in
theorem pmis_c (N : Nat) (W : World) (u g o : Nat) (k : Int) (s : ByteArray) (n : Int) (b : List Int) (l : List Tr) (xu : W.cell? ⟨u, 0, none⟩ = some (ptr g o)) (hs : Szs [Tr.mk k s n b l]) (hT : TAtG N W g o (.mk k s n b l)) (hg : g < N) (hN : N ≤ W.heap.size) : Calls Tryz.prog 45 #[ptr u 0] W fun e w' => e = .returned (.bool ((k != 18) || (preL [Tr.mk k s n b l]).any misV)) ∧ Gr (fun _ => False) W w' := by
  have hu := World.block_lt_of_cell? _ _ xu
  dsimp only at hu
  have h := any_c (mis_c N) (.mk k s n b l) hs (fun U hU => hs U hU) W g o trivial hT hg hN
  obtain ⟨ba, bc, la, lc, ⟨x0, x1, x2, x3, x4⟩, hrow, hgl⟩ := hT.parts
  generalize (preL [Tr.mk k s n b l]).any misV = r at h ⊢
  replace h := Lib.hid h
  clear hT hrow x1 x2 x3 x4 hs
  cases hk : k != 18 with
  | true =>
    go_enter Tryz.func45, Tryz.ntmps45
    go_wp2_with fail
    go_ret
    exact ⟨rfl, Gr.refl _ _⟩
  | false =>
    go_enter Tryz.func45, Tryz.ntmps45
    go_wp2_with fail
    refine h.out.mono ?_
    rintro e w1 ⟨rfl, g1⟩
    go_wp2_with fail
    go_ret
    exact ⟨rfl, g1⟩
abbrev SV (u g o : Nat) (la : Option Addr) (n lc : Nat) (w : World) : Prop := w.cell? ⟨u, 0, none⟩ = some (ptr g o) ∧ w.cell? ⟨g, o + 4, none⟩ = some (.slice la n lc)
theorem SV.gr {u g o : Nat} {la : Option Addr} {n lc : Nat} (h : SV u g o la n lc W) (gr : Gr (fun _ => False) W W') : SV u g o la n lc W' :=
  ⟨cell_gr h.1 gr (fun e => e), cell_gr h.2 gr (fun e => e)⟩
set_option maxRecDepth 100000 in
set_option maxHeartbeats 3200000 in
theorem ptwice_c (N : Nat) (W : World) (u g o : Nat) (k : Int) (s : ByteArray) (n : Int) (b : List Int) (l : List Tr) (r : Bool) (xu : W.cell? ⟨u, 0, none⟩ = some (ptr g o)) (hs : Szs [Tr.mk k s n b l]) (hl : l.length ≤ 4000) (hT : TAtG N W g o (.mk k s n b l)) (hg : g < N) (hN : N ≤ W.heap.size) (ha : ∀ w, Gr (fun _ => False) W w → AnyIs 50 g o #[] r w) :
    Calls Tryz.prog 48 #[ptr u 0] W fun e w' => e = .returned (.bool (decide (((hdsL [] l).length : Int) < (l.length : Int)) || r)) ∧ Gr (fun _ => False) W w' := by
  have hu := World.block_lt_of_cell? _ _ xu
  dsimp only at hu
  obtain ⟨ba, bc, la, lc, ⟨x0, x1, x2, x3, x4⟩, hrow, hgl⟩ := hT.parts
  have hhd := Lib.hid (heads_c N W.drew g o k s n b l (hT.g0 (Gr.drew _ _) hg) hs hl hg hN)
  obtain ⟨mb, hmb⟩ : ∃ mb, W.drew.heap.size = mb := ⟨_, rfl⟩
  rw [hmb] at hhd
  replace hmb := Lib.hid hmb
  have hany := Lib.hid ha
  unfold AnyIs at hany
  have S0 : Hid (SV u g o la l.length lc W) := ⟨xu, x4⟩
  have G0 : Gr (fun _ => False) W W.drew := Gr.drew _ _
  have TS : SV u g o la l.length lc W.drew := SV.gr S0.out G0
  have hud : u < W.drew.heap.size := hu
  have hgd : g < W.drew.heap.size := hgl
  clear hrow hT x0 x1 x2 x3 x4 xu hs ha
  generalize hdsL [] l = L at *
  cases hd : decide ((L.length : Int) < (l.length : Int)) with
  | true =>
    go_enter Tryz.func48, Tryz.ntmps48
    go_wp2_with fail
    refine wp_region_L (L := 100) (T := SV u g o la l.length lc) (by kernel_rfl) ?_
    refine wpAnyN_at (i := 0) (v := ptr g o) (some 2) rfl rfl (by kernel_rfl) (by kernel_rfl) (by kernel_rfl) (by kernel_rfl) (fun _ _ _ h => h) (Or.inl ⟨by rfl, ?_⟩) TS ?_
    · intro w hSw
      obtain ⟨qu, q4⟩ := hSw
      go_simp
      try (intro h; exfalso; omega)
    try simp only [Act.put, List.setIfInBounds_toArray, List.set_cons_zero, List.set_cons_succ]
    refine wpAnyN_at (i := 3) (v := ptr g o) (some 5) rfl rfl (by kernel_rfl) (by kernel_rfl) (by kernel_rfl) (by kernel_rfl) (fun _ _ _ h => h) (Or.inl ⟨by rfl, ?_⟩) TS ?_
    · intro w hSw
      obtain ⟨qu, q4⟩ := hSw
      go_simp
      try (intro h; exfalso; omega)
    try simp only [Act.put, List.setIfInBounds_toArray, List.set_cons_zero, List.set_cons_succ]
    refine wpAnyN_at (i := 4) (v := ptr g o) (some 6) rfl rfl (by kernel_rfl) (by kernel_rfl) (by kernel_rfl) (by kernel_rfl) (fun _ _ _ h => h) (Or.inl ⟨by rfl, ?_⟩) TS ?_
    · intro w hSw
      obtain ⟨qu, q4⟩ := hSw
      go_simp
      try (intro h; exfalso; omega)
    try simp only [Act.put, List.setIfInBounds_toArray, List.set_cons_zero, List.set_cons_succ]
    refine wpAnyN_at (i := 5) (v := ptr g (o + 4)) (some 7) rfl rfl (by kernel_rfl) (by kernel_rfl) (by kernel_rfl) (by kernel_rfl) (fun _ _ _ h => h) (Or.inl ⟨by rfl, ?_⟩) TS ?_
    · intro w hSw
      obtain ⟨qu, q4⟩ := hSw
      go_simp
      try (intro h; exfalso; omega)
    try simp only [Act.put, List.setIfInBounds_toArray, List.set_cons_zero, List.set_cons_succ]
    refine wpAnyN_at (i := 6) (v := .slice la l.length lc) (some 8) rfl rfl (by kernel_rfl) (by kernel_rfl) (by kernel_rfl) (by kernel_rfl) (fun _ _ _ h => h) (Or.inl ⟨by rfl, ?_⟩) TS ?_
    · intro w hSw
      obtain ⟨qu, q4⟩ := hSw
      go_simp
      try (intro h; exfalso; omega)
    try simp only [Act.put, List.setIfInBounds_toArray, List.set_cons_zero, List.set_cons_succ]
    refine wpAnyN_at (i := 7) (v := .int .i64 (l.length : Int)) (some 9) rfl rfl (by kernel_rfl) (by kernel_rfl) (by kernel_rfl) (by kernel_rfl) (fun _ _ _ h => h) (Or.inl ⟨by rfl, ?_⟩) TS ?_
    · intro w hSw
      obtain ⟨qu, q4⟩ := hSw
      go_simp
      try (intro h; exfalso; omega)
    try simp only [Act.put, List.setIfInBounds_toArray, List.set_cons_zero, List.set_cons_succ]
    refine wpAnyL_one (i := 1) (by kernel_rfl) rfl (fun K hK => ?_)
    go_simp
    refine hhd.out.mono ?_
    rintro e w2 ⟨rfl, h2, g2⟩
    have G2 : Gr (fun _ => False) W w2 := G0.trans g2
    have TS : SV u g o la l.length lc w2 := SV.gr S0.out G2
    have hlen := Hs.len h2 3
    refine hK.out _ _ (fun _ => TS) ?_
    clear hK K
    try simp only [Act.put, List.setIfInBounds_toArray, List.set_cons_zero, List.set_cons_succ]
    refine wpAnyL_one (i := 2) (by kernel_rfl) rfl (fun K hK => ?_)
    go_simp
    refine hK.out _ _ (fun _ => TS) ?_
    clear hK K
    try simp only [Act.put, List.setIfInBounds_toArray, List.set_cons_zero, List.set_cons_succ]
    clear hlen
    refine wpAnyN_at (i := 8) (v := .bool true) (some 10) rfl rfl (by kernel_rfl) (by kernel_rfl) (by kernel_rfl) (by kernel_rfl) (fun _ _ _ h => h) (Or.inl ⟨by rfl, ?_⟩) TS ?_
    · intro w hSw
      obtain ⟨qu, q4⟩ := hSw
      go_simp
      try (simp only [decide_eq_true_eq, decide_eq_false_iff_not] at hd; omega)
      try (intro h; exfalso; omega)
    try simp only [Act.put, List.setIfInBounds_toArray, List.set_cons_zero, List.set_cons_succ]
    refine wpAnyN_at (i := 9) (v := .bool true) (some 11) rfl rfl (by kernel_rfl) (by kernel_rfl) (by kernel_rfl) (by kernel_rfl) (fun _ _ _ h => h) (Or.inl ⟨by rfl, ?_⟩) TS ?_
    · intro w hSw
      obtain ⟨qu, q4⟩ := hSw
      go_simp
      try (intro h; exfalso; omega)
    try simp only [Act.put, List.setIfInBounds_toArray, List.set_cons_zero, List.set_cons_succ]
    refine wpAnyN_at (i := 10) (v := undef) (some 12) rfl rfl (by kernel_rfl) (by kernel_rfl) (by kernel_rfl) (by kernel_rfl) (fun _ _ _ h => h) (Or.inr ⟨by rfl, rfl⟩) TS ?_
    try simp only [Act.put, List.setIfInBounds_toArray, List.set_cons_zero, List.set_cons_succ]
    refine wpAnyN_at (i := 11) (v := undef) (some 13) rfl rfl (by kernel_rfl) (by kernel_rfl) (by kernel_rfl) (by kernel_rfl) (fun _ _ _ h => h) (Or.inr ⟨by rfl, rfl⟩) TS ?_
    try simp only [Act.put, List.setIfInBounds_toArray, List.set_cons_zero, List.set_cons_succ]
    refine wpAnyN_at (i := 12) (v := .bool true) (some 14) rfl rfl (by kernel_rfl) (by kernel_rfl) (by kernel_rfl) (by kernel_rfl) (fun _ _ _ h => h) (Or.inl ⟨by rfl, ?_⟩) TS ?_
    · intro w hSw
      obtain ⟨qu, q4⟩ := hSw
      go_simp
      try (intro h; exfalso; omega)
    try simp only [Act.put, List.setIfInBounds_toArray, List.set_cons_zero, List.set_cons_succ]
    refine wpAnyL_one (i := 13) (by kernel_rfl) rfl (fun K hK => ?_)
    go_simp
    refine hK.out _ _ (fun _ => TS) ?_
    clear hK K
    try simp only [Act.put, List.setIfInBounds_toArray, List.set_cons_zero, List.set_cons_succ]
    refine wpAnyL_done (by kernel_rfl) ?_ _
    refine NoPanic.normal ?_
    go_wp2_with fail
    go_ret
    exact ⟨rfl, G2⟩
  | false =>
    go_enter Tryz.func48, Tryz.ntmps48
    go_wp2_with fail
    refine wp_region_L (L := 100) (T := SV u g o la l.length lc) (by kernel_rfl) ?_
    refine wpAnyN_at (i := 0) (v := ptr g o) (some 2) rfl rfl (by kernel_rfl) (by kernel_rfl) (by kernel_rfl) (by kernel_rfl) (fun _ _ _ h => h) (Or.inl ⟨by rfl, ?_⟩) TS ?_
    · intro w hSw
      obtain ⟨qu, q4⟩ := hSw
      go_simp
      try (intro h; exfalso; omega)
    try simp only [Act.put, List.setIfInBounds_toArray, List.set_cons_zero, List.set_cons_succ]
    refine wpAnyN_at (i := 3) (v := ptr g o) (some 5) rfl rfl (by kernel_rfl) (by kernel_rfl) (by kernel_rfl) (by kernel_rfl) (fun _ _ _ h => h) (Or.inl ⟨by rfl, ?_⟩) TS ?_
    · intro w hSw
      obtain ⟨qu, q4⟩ := hSw
      go_simp
      try (intro h; exfalso; omega)
    try simp only [Act.put, List.setIfInBounds_toArray, List.set_cons_zero, List.set_cons_succ]
    refine wpAnyN_at (i := 4) (v := ptr g o) (some 6) rfl rfl (by kernel_rfl) (by kernel_rfl) (by kernel_rfl) (by kernel_rfl) (fun _ _ _ h => h) (Or.inl ⟨by rfl, ?_⟩) TS ?_
    · intro w hSw
      obtain ⟨qu, q4⟩ := hSw
      go_simp
      try (intro h; exfalso; omega)
    try simp only [Act.put, List.setIfInBounds_toArray, List.set_cons_zero, List.set_cons_succ]
    refine wpAnyN_at (i := 5) (v := ptr g (o + 4)) (some 7) rfl rfl (by kernel_rfl) (by kernel_rfl) (by kernel_rfl) (by kernel_rfl) (fun _ _ _ h => h) (Or.inl ⟨by rfl, ?_⟩) TS ?_
    · intro w hSw
      obtain ⟨qu, q4⟩ := hSw
      go_simp
      try (intro h; exfalso; omega)
    try simp only [Act.put, List.setIfInBounds_toArray, List.set_cons_zero, List.set_cons_succ]
    refine wpAnyN_at (i := 6) (v := .slice la l.length lc) (some 8) rfl rfl (by kernel_rfl) (by kernel_rfl) (by kernel_rfl) (by kernel_rfl) (fun _ _ _ h => h) (Or.inl ⟨by rfl, ?_⟩) TS ?_
    · intro w hSw
      obtain ⟨qu, q4⟩ := hSw
      go_simp
      try (intro h; exfalso; omega)
    try simp only [Act.put, List.setIfInBounds_toArray, List.set_cons_zero, List.set_cons_succ]
    refine wpAnyN_at (i := 7) (v := .int .i64 (l.length : Int)) (some 9) rfl rfl (by kernel_rfl) (by kernel_rfl) (by kernel_rfl) (by kernel_rfl) (fun _ _ _ h => h) (Or.inl ⟨by rfl, ?_⟩) TS ?_
    · intro w hSw
      obtain ⟨qu, q4⟩ := hSw
      go_simp
      try (intro h; exfalso; omega)
    try simp only [Act.put, List.setIfInBounds_toArray, List.set_cons_zero, List.set_cons_succ]
    refine wpAnyL_one (i := 1) (by kernel_rfl) rfl (fun K hK => ?_)
    go_simp
    refine hhd.out.mono ?_
    rintro e w2 ⟨rfl, h2, g2⟩
    have G2 : Gr (fun _ => False) W w2 := G0.trans g2
    have TS : SV u g o la l.length lc w2 := SV.gr S0.out G2
    have hlen := Hs.len h2 3
    refine hK.out _ _ (fun _ => TS) ?_
    clear hK K
    try simp only [Act.put, List.setIfInBounds_toArray, List.set_cons_zero, List.set_cons_succ]
    refine wpAnyL_one (i := 2) (by kernel_rfl) rfl (fun K hK => ?_)
    go_simp
    refine hK.out _ _ (fun _ => TS) ?_
    clear hK K
    try simp only [Act.put, List.setIfInBounds_toArray, List.set_cons_zero, List.set_cons_succ]
    clear hlen
    refine wpAnyN_at (i := 8) (v := .bool false) (some 10) rfl rfl (by kernel_rfl) (by kernel_rfl) (by kernel_rfl) (by kernel_rfl) (fun _ _ _ h => h) (Or.inl ⟨by rfl, ?_⟩) TS ?_
    · intro w hSw
      obtain ⟨qu, q4⟩ := hSw
      go_simp
      try (simp only [decide_eq_true_eq, decide_eq_false_iff_not] at hd; omega)
      try (intro h; exfalso; omega)
    try simp only [Act.put, List.setIfInBounds_toArray, List.set_cons_zero, List.set_cons_succ]
    refine wpAnyN_at (i := 9) (v := .bool false) (some 11) rfl rfl (by kernel_rfl) (by kernel_rfl) (by kernel_rfl) (by kernel_rfl) (fun _ _ _ h => h) (Or.inl ⟨by rfl, ?_⟩) TS ?_
    · intro w hSw
      obtain ⟨qu, q4⟩ := hSw
      go_simp
      try (intro h; exfalso; omega)
    try simp only [Act.put, List.setIfInBounds_toArray, List.set_cons_zero, List.set_cons_succ]
    refine wpAnyN_at (i := 10) (v := ptr g o) (some 12) rfl rfl (by kernel_rfl) (by kernel_rfl) (by kernel_rfl) (by kernel_rfl) (fun _ _ _ h => h) (Or.inl ⟨by rfl, ?_⟩) TS ?_
    · intro w hSw
      obtain ⟨qu, q4⟩ := hSw
      go_simp
      try (intro h; exfalso; omega)
    try simp only [Act.put, List.setIfInBounds_toArray, List.set_cons_zero, List.set_cons_succ]
    refine wpAnyL_one (i := 11) (by kernel_rfl) rfl (fun K hK => ?_)
    go_simp
    refine (hany.out _ G2).mono ?_
    rintro e w3 ⟨rfl, g3⟩
    have G3 : Gr (fun _ => False) W w3 := G2.trans g3
    have TS : SV u g o la l.length lc w3 := SV.gr S0.out G3
    refine hK.out _ _ (fun _ => TS) ?_
    clear hK K
    try simp only [Act.put, List.setIfInBounds_toArray, List.set_cons_zero, List.set_cons_succ]
    refine wpAnyN_at (i := 12) (v := .bool r) (some 14) rfl rfl (by kernel_rfl) (by kernel_rfl) (by kernel_rfl) (by kernel_rfl) (fun _ _ _ h => h) (Or.inl ⟨by rfl, ?_⟩) TS ?_
    · intro w hSw
      obtain ⟨qu, q4⟩ := hSw
      go_simp
      try (intro h; exfalso; omega)
    try simp only [Act.put, List.setIfInBounds_toArray, List.set_cons_zero, List.set_cons_succ]
    refine wpAnyL_one (i := 13) (by kernel_rfl) rfl (fun K hK => ?_)
    go_simp
    refine hK.out _ _ (fun _ => TS) ?_
    clear hK K
    try simp only [Act.put, List.setIfInBounds_toArray, List.set_cons_zero, List.set_cons_succ]
    refine wpAnyL_done (by kernel_rfl) ?_ _
    refine NoPanic.normal ?_
    go_wp2_with fail
    go_ret
    exact ⟨rfl, G3⟩
set_option maxRecDepth 100000 in
set_option maxHeartbeats 3200000 in
theorem pcall_c (N : Nat) (W : World) (u g o : Nat) (k : Int) (s : ByteArray) (n : Int) (b : List Int) (l : List Tr) (xu : W.cell? ⟨u, 0, none⟩ = some (ptr g o)) (hs : Szs [Tr.mk k s n b l]) (hl : l.length ≤ 4000) (hB : Bu W) (hT : TAtG N W g o (.mk k s n b l)) (hg : g < N) (hN : N ≤ W.heap.size) :
    Calls Tryz.prog 54 #[ptr u 0] W fun e w' => e = .returned (.bool ((preL [Tr.mk k s n b l]).any (uncV (hdsL [] l)))) ∧ Gr (fun _ => False) W w' := by
  have hu := World.block_lt_of_cell? _ _ xu
  dsimp only at hu
  obtain ⟨ba, bc, la, lc, ⟨x0, x1, x2, x3, x4⟩, hrow, hgl⟩ := hT.parts
  have hhd := Lib.hid (heads_c N W.drew g o k s n b l (hT.g0 (Gr.drew _ _) hg) hs hl hg hN)
  obtain ⟨mb, hmb⟩ : ∃ mb, W.drew.heap.size = mb := ⟨_, rfl⟩
  rw [hmb] at hhd
  replace hmb := Lib.hid hmb
  have hany : Hid (∀ v mb w, Gr (fun _ => False) W w → HsAt v mb (hdsL [] l) w → Calls Tryz.prog 42 #[ptr g o, .func (.func 74) #[] #[ptr v 0]] w fun e w' => e = .returned (.bool ((preL [Tr.mk k s n b l]).any (uncV (hdsL [] l)))) ∧ Gr (fun _ => False) w w') := fun v mb w gw hA =>
    any_c (unc_so N v mb (hdsL [] l)) (.mk k s n b l) hs (fun U hU => hs U hU) w g o hA (hT.g0 gw hg) hg (Nat.le_trans hN gw.size)
  have S0 : Hid (SV u g o la l.length lc W) := ⟨xu, x4⟩
  have G0 : Gr (fun _ => False) W W.drew := Gr.drew _ _
  have TS : SV u g o la l.length lc W.drew := SV.gr S0.out G0
  have hud : u < W.drew.heap.size := hu
  have hgd : g < W.drew.heap.size := hgl
  replace hB := Lib.hid hB
  clear hrow hT x0 x1 x2 x3 x4 xu hs
  generalize (preL [Tr.mk k s n b l]).any (uncV (hdsL [] l)) = r at *
  go_enter Tryz.func54, Tryz.ntmps54
  go_wp2_with fail
  refine wp_region_L (L := 100) (T := SV u g o la l.length lc) (by kernel_rfl) ?_
  refine wpAnyN_at (i := 0) (v := ptr g o) (some 2) rfl rfl (by kernel_rfl) (by kernel_rfl) (by kernel_rfl) (by kernel_rfl) (fun _ _ _ h => h) (Or.inl ⟨by rfl, ?_⟩) TS ?_
  · intro w hSw
    obtain ⟨qu, q4⟩ := hSw
    go_simp
    try (intro h; exfalso; omega)
  try simp only [Act.put, List.setIfInBounds_toArray, List.set_cons_zero, List.set_cons_succ]
  refine wpAnyN_at (i := 1) (v := ptr g o) (some 3) rfl rfl (by kernel_rfl) (by kernel_rfl) (by kernel_rfl) (by kernel_rfl) (fun _ _ _ h => h) (Or.inl ⟨by rfl, ?_⟩) TS ?_
  · intro w hSw
    obtain ⟨qu, q4⟩ := hSw
    go_simp
    try (intro h; exfalso; omega)
  try simp only [Act.put, List.setIfInBounds_toArray, List.set_cons_zero, List.set_cons_succ]
  refine wpAnyL_one (i := 2) (by kernel_rfl) rfl (fun K hK => ?_)
  go_simp
  refine hhd.out.mono ?_
  rintro e w2 ⟨rfl, h2, g2⟩
  have G2 : Gr (fun _ => False) W w2 := G0.trans g2
  have TS : SV u g o la l.length lc w2 := SV.gr S0.out G2
  refine hK.out _ _ (fun _ => TS) ?_
  clear hK K
  try simp only [Act.put, List.setIfInBounds_toArray, List.set_cons_zero, List.set_cons_succ]
  refine wpAnyL_one (i := 3) (by kernel_rfl) rfl (fun K hK => ?_)
  go_simp
  refine (unc_c w2 _).mono ?_
  rintro e w3 ⟨rfl, rfl⟩
  have g3 := Gr.alloc w2 (.cells #[.map (some mb)] 73) (fun _ => False)
  have hAt : HsAt w2.heap.size mb (hdsL [] l) (w2.alloc (.cells #[.map (some mb)] 73)) := ⟨cell_one _ _ _, h2.gr g3 (fun e => e), Bu.gr hB.out (G2.trans g3) (fun e => e)⟩
  have G3 : Gr (fun _ => False) W (w2.alloc (.cells #[.map (some mb)] 73)) := G2.trans g3
  have TS : SV u g o la l.length lc (w2.alloc (.cells #[.map (some mb)] 73)) := SV.gr S0.out G3
  have hcall := hany.out w2.heap.size mb _ G3 hAt
  replace hcall := Lib.hid hcall
  refine hK.out _ _ (fun _ => TS) ?_
  clear hK K
  try simp only [Act.put, List.setIfInBounds_toArray, List.set_cons_zero, List.set_cons_succ]
  refine wpAnyL_one (i := 4) (by kernel_rfl) rfl (fun K hK => ?_)
  go_simp
  refine hcall.out.mono ?_
  rintro e w4 ⟨rfl, g4⟩
  have G4 : Gr (fun _ => False) W w4 := G3.trans g4
  have TS : SV u g o la l.length lc w4 := SV.gr S0.out G4
  refine hK.out _ _ (fun _ => TS) ?_
  clear hK K
  try simp only [Act.put, List.setIfInBounds_toArray, List.set_cons_zero, List.set_cons_succ]
  refine wpAnyL_one (i := 5) (by kernel_rfl) rfl (fun K hK => ?_)
  go_simp
  refine hK.out _ _ (fun _ => TS) ?_
  clear hK K
  try simp only [Act.put, List.setIfInBounds_toArray, List.set_cons_zero, List.set_cons_succ]
  refine wpAnyL_done (by kernel_rfl) ?_ _
  refine NoPanic.normal ?_
  go_wp2_with fail
  go_ret
  exact ⟨rfl, G4⟩
abbrev mainB : ByteArray := { data := #[109, 97, 105, 110] }
set_option maxRecDepth 100000 in
set_option maxHeartbeats 1600000 in
theorem pmain_c (N : Nat) (W : World) (u g o : Nat) (k : Int) (s : ByteArray) (n : Int) (b : List Int) (l : List Tr) (xu : W.cell? ⟨u, 0, none⟩ = some (ptr g o)) (hs : Szs [Tr.mk k s n b l]) (hl : l.length ≤ 4000) (hT : TAtG N W g o (.mk k s n b l)) (hg : g < N) (hN : N ≤ W.heap.size) :
    Calls Tryz.prog 56 #[ptr u 0] W fun e w' => e = .returned (.bool (!inH (hdsL [] l) (mainB, 0))) ∧ Gr (fun _ => False) W w' := by
  have hu := World.block_lt_of_cell? _ _ xu
  dsimp only at hu
  have hhd := Lib.hid (heads_c N W g o k s n b l hT hs hl hg hN)
  obtain ⟨mb, hmb⟩ : ∃ mb, W.heap.size = mb := ⟨_, rfl⟩
  rw [hmb] at hhd
  have hhas : Hid (∀ w, Hs w mb (hdsL [] l) → Calls Tryz.prog 57 #[.map (some mb), .string mainB, .int .i64 0] w fun e w' => e = .returned (.bool (inH (hdsL [] l) (mainB, 0))) ∧ Gr (fun _ => False) w w') := fun w h => has_c w mb _ mainB 0 h (hOk_of (by decide) (by omega) (by omega))
  generalize inH (hdsL [] l) (mainB, 0) = r at hhas ⊢
  clear hT hs
  go_enter Tryz.func56, Tryz.ntmps56
  go_wp2_with fail
  refine hhd.out.mono ?_
  rintro e w1 ⟨rfl, h1, g1⟩
  replace h1 := Lib.hid h1
  go_wp2_with fail
  refine (hhas.out w1 h1.out).mono ?_
  rintro e w2 ⟨rfl, g2⟩
  go_wp2_with fail
  go_ret
  exact ⟨by simp, g1.trans g2⟩
end Go.Proofs.YtjedbfbolifjjaaGreatDoor
