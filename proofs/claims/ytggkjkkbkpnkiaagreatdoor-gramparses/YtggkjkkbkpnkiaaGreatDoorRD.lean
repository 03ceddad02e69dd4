/-
  The reference's joins.
-/
import Derived.Test.YtggkjkkbkpnkiaaGreatDoorRA
import Derived.Test.YtggkjkkbkpnkiaaGreatDoorGQ
set_option linter.unusedVariables false
set_option linter.unusedSimpArgs false
namespace Go.Proofs.YtggkjkkbkpnkiaaGreatDoor
open Go.RowKit Go.Maps
variable {x : Kx} {W W' : World} {p p' : Ps}
def jAll : List (ByteArray × Int) := [(⟨#[61, 61]⟩, 0), (⟨#[47, 61]⟩, 0), (⟨#[60]⟩, 0), (⟨#[62]⟩, 0), (⟨#[61, 60]⟩, 0), (⟨#[62, 61]⟩, 0), (⟨#[43]⟩, 1), (⟨#[45]⟩, 1), (⟨#[42]⟩, 2), (⟨#[47]⟩, 2), (⟨#[114, 101, 109]⟩, 2)]
def joinsV (ts : List Tn) (lev : Int) (p : Ps) : ByteArray := ((jAll.find? fun y => (y.2 == lev) && isV ts p y.1).map (·.1)).getD e0
abbrev jS : Array Value := #[.string ⟨#[61, 61]⟩, .string ⟨#[47, 61]⟩, .string ⟨#[60]⟩, .string ⟨#[62]⟩, .string ⟨#[61, 60]⟩, .string ⟨#[62, 61]⟩, .string ⟨#[43]⟩, .string ⟨#[45]⟩, .string ⟨#[42]⟩, .string ⟨#[47]⟩, .string ⟨#[114, 101, 109]⟩]
abbrev jI : Array Value := #[.int .i64 0, .int .i64 0, .int .i64 0, .int .i64 0, .int .i64 0, .int .i64 0, .int .i64 1, .int .i64 1, .int .i64 2, .int .i64 2, .int .i64 2]
theorem j_at {w : World} {a c : Nat} (hS : w.heap[a]? = some (.cells jS 104 (0, 0))) (hI : w.heap[c]? = some (.cells jI 105 (0, 0))) (i : Nat) (hi : i < 11) : ∃ s m, jAll[i]? = some (s, m) ∧ w.cell? ⟨a, i, none⟩ = some (.string s) ∧ w.cell? ⟨c, i, none⟩ = some (.int .i64 m) := by
  simp only [World.cell?, hS, hI]
  match i, hi with
  | 0, _ => exact ⟨_, _, rfl, rfl, rfl⟩
  | 1, _ => exact ⟨_, _, rfl, rfl, rfl⟩
  | 2, _ => exact ⟨_, _, rfl, rfl, rfl⟩
  | 3, _ => exact ⟨_, _, rfl, rfl, rfl⟩
  | 4, _ => exact ⟨_, _, rfl, rfl, rfl⟩
  | 5, _ => exact ⟨_, _, rfl, rfl, rfl⟩
  | 6, _ => exact ⟨_, _, rfl, rfl, rfl⟩
  | 7, _ => exact ⟨_, _, rfl, rfl, rfl⟩
  | 8, _ => exact ⟨_, _, rfl, rfl, rfl⟩
  | 9, _ => exact ⟨_, _, rfl, rfl, rfl⟩
  | 10, _ => exact ⟨_, _, rfl, rfl, rfl⟩
  | n + 11, h => omega
theorem find_drop {α : Type} {l : List α} {i : Nat} {y : α} (f : α → Bool) (h : l[i]? = some y) : (l.drop i).find? f = if f y = true then some y else (l.drop (i + 1)).find? f := by
  have hl := (List.getElem?_eq_some_iff.1 h).1
  have e : l.drop i = y :: l.drop (i + 1) := by
    rw [List.drop_eq_getElem_cons hl]
    congr 1
    exact (List.getElem?_eq_some_iff.1 h).2
  rw [e, List.find?_cons]
  cases f y <;> rfl
set_option maxRecDepth 100000 in
set_option maxHeartbeats 1200000 in
theorem rjoins_c (h : Rz x W p) (lev : Int) : Calls Tryz.prog 63 #[stv x p, .int .i64 lev] W fun e w' => e = .returned (.string (joinsV x.ts lev p)) ∧ Gr (fun _ => False) W w' := by
  obtain ⟨r, hr⟩ : ∃ r, r = (jAll.drop 0).find? fun y => (y.2 == lev) && isV x.ts p y.1 := ⟨_, rfl⟩
  have er : joinsV x.ts lev p = (r.map (·.1)).getD e0 := by rw [hr]; rfl
  rw [er]
  replace hr := Lib.hid hr
  clear er
  have g0 : Gr (fun _ => False) W (((W.alloc (stb x p)).alloc (.cells jS 104 (0, 0))).alloc (.cells jI 105 (0, 0))) := ((Gr.alloc W _ _).trans (Gr.alloc _ _ _)).trans (Gr.alloc _ _ _)
  have b0 : (((W.alloc (stb x p)).alloc (.cells jS 104 (0, 0))).alloc (.cells jI 105 (0, 0))).heap[W.heap.size]? = some (stb x p) := (Gr.alloc _ _ (fun _ => False)).keep ((Gr.alloc _ _ (fun _ => False)).keep (heap_alloc_new W _) (fun e => e)) (fun e => e)
  have b1 : (((W.alloc (stb x p)).alloc (.cells jS 104 (0, 0))).alloc (.cells jI 105 (0, 0))).heap[W.heap.size + 1]? = some (.cells jS 104 (0, 0)) := by
    have h1 := heap_alloc_new (W.alloc (stb x p)) (.cells jS 104 (0, 0))
    have h2 := (Gr.alloc ((W.alloc (stb x p)).alloc (.cells jS 104 (0, 0))) (.cells jI 105 (0, 0)) (fun _ => False)).keep h1 (fun e => e)
    have hs : (W.alloc (stb x p)).heap.size = W.heap.size + 1 := by simp
    rw [hs] at h2
    exact h2
  have b2 : (((W.alloc (stb x p)).alloc (.cells jS 104 (0, 0))).alloc (.cells jI 105 (0, 0))).heap[W.heap.size + 2]? = some (.cells jI 105 (0, 0)) := by
    have h1 := heap_alloc_new ((W.alloc (stb x p)).alloc (.cells jS 104 (0, 0))) (.cells jI 105 (0, 0))
    have hs : ((W.alloc (stb x p)).alloc (.cells jS 104 (0, 0))).heap.size = W.heap.size + 2 := by simp
    rw [hs] at h1
    exact h1
  obtain ⟨b, hb⟩ : ∃ b, W.heap.size = b := ⟨_, rfl⟩
  go_enter Tryz.func63, Tryz.ntmps63
  go_wp2_with fail
  generalize ((W.alloc _).alloc _).alloc _ = W1 at g0 b0 b1 b2 ⊢
  rw [hb] at b0 b1 b2
  replace hb := Lib.hid hb
  have Hh := Lib.hid (fun w (g : Gr (fun _ => False) W w) s => ris_c (h.g0 g) s)
  have B0 := Lib.hid b0
  have B1 := Lib.hid b1
  have B2 := Lib.hid b2
  clear h b0 b1 b2
  go_loopw [7] (fun u wr => ∃ i : Nat, i ≤ 11 ∧ u = .int .i64 (i : Int) ∧ Hid (r = (jAll.drop i).find? fun y => (y.2 == lev) && isV x.ts p y.1) ∧ Hid (Gr (fun _ => False) W1 wr)) (fun u _ => 11 - (intOf u).toNat)
  case atStart => exact ⟨0, by omega, rfl, hr, Gr.refl _ _⟩
  case round =>
    obtain ⟨i, hi, rfl, hR, hG⟩ := hrel
    by_cases hlt : i < 11
    · have hd : decide ((i : Int) < 11) = true := by simp; omega
      have hiI : (i : Int) < 11 := by omega
      obtain ⟨s, m, hjs, k0, k1⟩ := j_at (hG.out.keep B1.out (fun e => e)) (hG.out.keep B2.out (fun e => e)) i hlt
      have C0 := hG.out.keep B0.out (fun e => e)
      obtain ⟨⟨c0, c1, c2, c3⟩, _⟩ := four_cells C0
      have hR2 := Lib.hid (hR.out.trans (find_drop _ hjs))
      have hbl : b < wr.heap.size := (Array.getElem?_eq_some_iff.1 C0).1
      have hcall := Lib.hid (fun w (g : Gr (fun _ => False) wr.drew w) => Hh.out w (((g0.trans hG.out).trans (Gr.drew wr _)).trans g) s)
      replace k1 : wr.drew.cell? ⟨b + 1 + 1, i, none⟩ = some (.int .i64 m) := k1
      replace k0 : wr.drew.cell? ⟨b + 1, i, none⟩ = some (.string s) := k0
      have d0 : wr.drew.cell? ⟨b, 0, none⟩ = _ := c0
      have d1 : wr.drew.cell? ⟨b, 1, none⟩ = _ := c1
      have d2 : wr.drew.cell? ⟨b, 2, none⟩ = _ := c2
      have d3 : wr.drew.cell? ⟨b, 3, none⟩ = _ := c3
      have GD := Lib.hid (hG.out.trans (Gr.drew wr _))
      clear c0 c1 c2 c3
      clear hR hjs C0
      cases q : (m == lev) with
      | false =>
        have hr3 : Hid (r = (jAll.drop (i + 1)).find? fun y => (y.2 == lev) && isV x.ts p y.1) := by
          show r = _
          rw [hR2.out, if_neg (by simp [q])]
        clear hR2
        go_wp2_with fail
        have TS : Gr (fun _ => False) wr.drew wr.drew := Gr.refl _ _
        refine wp_region_L (L := 100) (T := fun w => Gr (fun _ => False) wr.drew w) (by kernel_rfl) ?_
        refine wpAnyN_at (i := 0) (v := .int .i64 (i : Int)) (some 14) rfl rfl (by kernel_rfl) (by kernel_rfl) (by kernel_rfl) (by kernel_rfl) (fun _ _ _ h => h) (Or.inl ⟨by rfl, ?_⟩) TS ?_
        · intro w hSw
          go_simp
          try (intro h; exfalso; omega)
        try simp only [Act.put, List.setIfInBounds_toArray, List.set_cons_zero, List.set_cons_succ]
        refine wpAnyN_at (i := 1) (v := ptr (b + 1 + 1) i) (some 15) rfl rfl (by kernel_rfl) (by kernel_rfl) (by kernel_rfl) (by kernel_rfl) (fun _ _ _ h => h) (Or.inl ⟨by rfl, ?_⟩) TS ?_
        · intro w hSw
          go_simp
          try (intro h; exfalso; omega)
        try simp only [Act.put, List.setIfInBounds_toArray, List.set_cons_zero, List.set_cons_succ]
        refine wpAnyN_at (i := 2) (v := .int .i64 m) (some 16) rfl rfl (by kernel_rfl) (by kernel_rfl) (by kernel_rfl) (by kernel_rfl) (fun _ _ _ h => h) (Or.inl ⟨by rfl, ?_⟩) TS ?_
        · intro w hSw
          have q0 := cell_gr k1 hSw (fun e => e)
          have qz := World.block_lt_of_cell? _ _ q0
          go_simp
          try (intro h; exfalso; omega)
        try simp only [Act.put, List.setIfInBounds_toArray, List.set_cons_zero, List.set_cons_succ]
        refine wpAnyN_at (i := 3) (v := .int .i64 lev) (some 17) rfl rfl (by kernel_rfl) (by kernel_rfl) (by kernel_rfl) (by kernel_rfl) (fun _ _ _ h => h) (Or.inl ⟨by rfl, ?_⟩) TS ?_
        · intro w hSw
          go_simp
          try (intro h; exfalso; omega)
        try simp only [Act.put, List.setIfInBounds_toArray, List.set_cons_zero, List.set_cons_succ]
        refine wpAnyN_at (i := 4) (v := .bool false) (some 18) rfl rfl (by kernel_rfl) (by kernel_rfl) (by kernel_rfl) (by kernel_rfl) (fun _ _ _ h => h) (Or.inl ⟨by rfl, ?_⟩) TS ?_
        · intro w hSw
          go_simp
          try (intro h; exfalso; omega)
        try simp only [Act.put, List.setIfInBounds_toArray, List.set_cons_zero, List.set_cons_succ]
        refine wpAnyN_at (i := 5) (v := .bool false) (some 19) rfl rfl (by kernel_rfl) (by kernel_rfl) (by kernel_rfl) (by kernel_rfl) (fun _ _ _ h => h) (Or.inl ⟨by rfl, ?_⟩) TS ?_
        · intro w hSw
          go_simp
          try (intro h; exfalso; omega)
        try simp only [Act.put, List.setIfInBounds_toArray, List.set_cons_zero, List.set_cons_succ]
        refine wpAnyN_at (i := 6) (v := undef) (some 20) rfl rfl (by kernel_rfl) (by kernel_rfl) (by kernel_rfl) (by kernel_rfl) (fun _ _ _ h => h) (Or.inr ⟨by rfl, rfl⟩) TS ?_
        try simp only [Act.put, List.setIfInBounds_toArray, List.set_cons_zero, List.set_cons_succ]
        refine wpAnyN_at (i := 7) (v := undef) (some 21) rfl rfl (by kernel_rfl) (by kernel_rfl) (by kernel_rfl) (by kernel_rfl) (fun _ _ _ h => h) (Or.inr ⟨by rfl, rfl⟩) TS ?_
        try simp only [Act.put, List.setIfInBounds_toArray, List.set_cons_zero, List.set_cons_succ]
        refine wpAnyN_at (i := 8) (v := undef) (some 22) rfl rfl (by kernel_rfl) (by kernel_rfl) (by kernel_rfl) (by kernel_rfl) (fun _ _ _ h => h) (Or.inr ⟨by rfl, rfl⟩) TS ?_
        try simp only [Act.put, List.setIfInBounds_toArray, List.set_cons_zero, List.set_cons_succ]
        refine wpAnyN_at (i := 9) (v := undef) (some 23) rfl rfl (by kernel_rfl) (by kernel_rfl) (by kernel_rfl) (by kernel_rfl) (fun _ _ _ h => h) (Or.inr ⟨by rfl, rfl⟩) TS ?_
        try simp only [Act.put, List.setIfInBounds_toArray, List.set_cons_zero, List.set_cons_succ]
        refine wpAnyN_at (i := 10) (v := undef) (some 24) rfl rfl (by kernel_rfl) (by kernel_rfl) (by kernel_rfl) (by kernel_rfl) (fun _ _ _ h => h) (Or.inr ⟨by rfl, rfl⟩) TS ?_
        try simp only [Act.put, List.setIfInBounds_toArray, List.set_cons_zero, List.set_cons_succ]
        refine wpAnyN_at (i := 11) (v := .bool false) (some 25) rfl rfl (by kernel_rfl) (by kernel_rfl) (by kernel_rfl) (by kernel_rfl) (fun _ _ _ h => h) (Or.inl ⟨by rfl, ?_⟩) TS ?_
        · intro w hSw
          go_simp
          try (intro h; exfalso; omega)
        try simp only [Act.put, List.setIfInBounds_toArray, List.set_cons_zero, List.set_cons_succ]
        refine wpAnyL_done (by kernel_rfl) ?_ _
        refine NoPanic.normal ?_
        go_wp2_with fail
        exact ⟨⟨i + 1, hlt, by go_num, hr3, GD.out⟩, by simp [intOf]; omega⟩
      | true =>
        cases q2 : isV x.ts p s with
        | true =>
          have hrs : Hid (r = some (s, m)) := by
            show r = _
            rw [hR2.out, if_pos (by simp [q, q2])]
          have hcall2 := fun w g => (hcall.out w g)
          rw [q2] at hcall2
          replace hcall := Lib.hid hcall2
          clear hR2 hcall2
          go_wp2_with fail
          have TS : Gr (fun _ => False) wr.drew wr.drew := Gr.refl _ _
          refine wp_region_L (L := 100) (T := fun w => Gr (fun _ => False) wr.drew w) (by kernel_rfl) ?_
          refine wpAnyN_at (i := 0) (v := .int .i64 (i : Int)) (some 14) rfl rfl (by kernel_rfl) (by kernel_rfl) (by kernel_rfl) (by kernel_rfl) (fun _ _ _ h => h) (Or.inl ⟨by rfl, ?_⟩) TS ?_
          · intro w hSw
            go_simp
            try (intro h; exfalso; omega)
          try simp only [Act.put, List.setIfInBounds_toArray, List.set_cons_zero, List.set_cons_succ]
          refine wpAnyN_at (i := 1) (v := ptr (b + 1 + 1) i) (some 15) rfl rfl (by kernel_rfl) (by kernel_rfl) (by kernel_rfl) (by kernel_rfl) (fun _ _ _ h => h) (Or.inl ⟨by rfl, ?_⟩) TS ?_
          · intro w hSw
            go_simp
            try (intro h; exfalso; omega)
          try simp only [Act.put, List.setIfInBounds_toArray, List.set_cons_zero, List.set_cons_succ]
          refine wpAnyN_at (i := 2) (v := .int .i64 m) (some 16) rfl rfl (by kernel_rfl) (by kernel_rfl) (by kernel_rfl) (by kernel_rfl) (fun _ _ _ h => h) (Or.inl ⟨by rfl, ?_⟩) TS ?_
          · intro w hSw
            have q0 := cell_gr k1 hSw (fun e => e)
            have qz := World.block_lt_of_cell? _ _ q0
            go_simp
            try (intro h; exfalso; omega)
          try simp only [Act.put, List.setIfInBounds_toArray, List.set_cons_zero, List.set_cons_succ]
          refine wpAnyN_at (i := 3) (v := .int .i64 lev) (some 17) rfl rfl (by kernel_rfl) (by kernel_rfl) (by kernel_rfl) (by kernel_rfl) (fun _ _ _ h => h) (Or.inl ⟨by rfl, ?_⟩) TS ?_
          · intro w hSw
            go_simp
            try (intro h; exfalso; omega)
          try simp only [Act.put, List.setIfInBounds_toArray, List.set_cons_zero, List.set_cons_succ]
          refine wpAnyN_at (i := 4) (v := .bool true) (some 18) rfl rfl (by kernel_rfl) (by kernel_rfl) (by kernel_rfl) (by kernel_rfl) (fun _ _ _ h => h) (Or.inl ⟨by rfl, ?_⟩) TS ?_
          · intro w hSw
            go_simp
            try (intro h; exfalso; omega)
          try simp only [Act.put, List.setIfInBounds_toArray, List.set_cons_zero, List.set_cons_succ]
          refine wpAnyN_at (i := 5) (v := .bool true) (some 19) rfl rfl (by kernel_rfl) (by kernel_rfl) (by kernel_rfl) (by kernel_rfl) (fun _ _ _ h => h) (Or.inl ⟨by rfl, ?_⟩) TS ?_
          · intro w hSw
            go_simp
            try (intro h; exfalso; omega)
          try simp only [Act.put, List.setIfInBounds_toArray, List.set_cons_zero, List.set_cons_succ]
          refine wpAnyN_at (i := 6) (v := stv x p) (some 20) rfl rfl (by kernel_rfl) (by kernel_rfl) (by kernel_rfl) (by kernel_rfl) (fun _ _ _ h => h) (Or.inl ⟨by rfl, ?_⟩) TS ?_
          · intro w hSw
            have q0 := cell_gr d0 hSw (fun e => e)
            have q1 := cell_gr d1 hSw (fun e => e)
            have q2 := cell_gr d2 hSw (fun e => e)
            have q3 := cell_gr d3 hSw (fun e => e)
            have qz := World.block_lt_of_cell? _ _ q0
            go_simp
            try (intro h; exfalso; omega)
          try simp only [Act.put, List.setIfInBounds_toArray, List.set_cons_zero, List.set_cons_succ]
          refine wpAnyN_at (i := 7) (v := .int .i64 (i : Int)) (some 21) rfl rfl (by kernel_rfl) (by kernel_rfl) (by kernel_rfl) (by kernel_rfl) (fun _ _ _ h => h) (Or.inl ⟨by rfl, ?_⟩) TS ?_
          · intro w hSw
            go_simp
            try (intro h; exfalso; omega)
          try simp only [Act.put, List.setIfInBounds_toArray, List.set_cons_zero, List.set_cons_succ]
          refine wpAnyN_at (i := 8) (v := ptr (b + 1) i) (some 22) rfl rfl (by kernel_rfl) (by kernel_rfl) (by kernel_rfl) (by kernel_rfl) (fun _ _ _ h => h) (Or.inl ⟨by rfl, ?_⟩) TS ?_
          · intro w hSw
            go_simp
            try (intro h; exfalso; omega)
          try simp only [Act.put, List.setIfInBounds_toArray, List.set_cons_zero, List.set_cons_succ]
          refine wpAnyN_at (i := 9) (v := .string s) (some 23) rfl rfl (by kernel_rfl) (by kernel_rfl) (by kernel_rfl) (by kernel_rfl) (fun _ _ _ h => h) (Or.inl ⟨by rfl, ?_⟩) TS ?_
          · intro w hSw
            have q0 := cell_gr k0 hSw (fun e => e)
            have qz := World.block_lt_of_cell? _ _ q0
            go_simp
            try (intro h; exfalso; omega)
          try simp only [Act.put, List.setIfInBounds_toArray, List.set_cons_zero, List.set_cons_succ]
          refine wpAnyL_one (i := 10) (by kernel_rfl) rfl (fun K hK => ?_)
          go_simp
          refine (hcall.out wr.drew TS).mono ?_
          rintro e w2 ⟨rfl, g2⟩
          have TS : Gr (fun _ => False) wr.drew w2 := g2
          refine hK.out _ _ (fun _ => TS) ?_
          clear hK K
          try simp only [Act.put, List.setIfInBounds_toArray, List.set_cons_zero, List.set_cons_succ]
          refine wpAnyN_at (i := 11) (v := .bool true) (some 25) rfl rfl (by kernel_rfl) (by kernel_rfl) (by kernel_rfl) (by kernel_rfl) (fun _ _ _ h => h) (Or.inl ⟨by rfl, ?_⟩) TS ?_
          · intro w hSw
            go_simp
            try (intro h; exfalso; omega)
          try simp only [Act.put, List.setIfInBounds_toArray, List.set_cons_zero, List.set_cons_succ]
          refine wpAnyL_done (by kernel_rfl) ?_ _
          refine NoPanic.normal ?_
          have k0' := cell_gr k0 TS (fun e => e)
          have hbq := World.block_lt_of_cell? _ _ k0'
          go_wp2_with fail
          go_ret
          exact ⟨by rw [hrs.out]; rfl, (g0.trans GD.out).trans TS⟩
        | false =>
          have hr3 : Hid (r = (jAll.drop (i + 1)).find? fun y => (y.2 == lev) && isV x.ts p y.1) := by
            show r = _
            rw [hR2.out, if_neg (by simp [q, q2])]
          have hcall2 := fun w g => (hcall.out w g)
          rw [q2] at hcall2
          replace hcall := Lib.hid hcall2
          clear hR2 hcall2
          go_wp2_with fail
          have TS : Gr (fun _ => False) wr.drew wr.drew := Gr.refl _ _
          refine wp_region_L (L := 100) (T := fun w => Gr (fun _ => False) wr.drew w) (by kernel_rfl) ?_
          refine wpAnyN_at (i := 0) (v := .int .i64 (i : Int)) (some 14) rfl rfl (by kernel_rfl) (by kernel_rfl) (by kernel_rfl) (by kernel_rfl) (fun _ _ _ h => h) (Or.inl ⟨by rfl, ?_⟩) TS ?_
          · intro w hSw
            go_simp
            try (intro h; exfalso; omega)
          try simp only [Act.put, List.setIfInBounds_toArray, List.set_cons_zero, List.set_cons_succ]
          refine wpAnyN_at (i := 1) (v := ptr (b + 1 + 1) i) (some 15) rfl rfl (by kernel_rfl) (by kernel_rfl) (by kernel_rfl) (by kernel_rfl) (fun _ _ _ h => h) (Or.inl ⟨by rfl, ?_⟩) TS ?_
          · intro w hSw
            go_simp
            try (intro h; exfalso; omega)
          try simp only [Act.put, List.setIfInBounds_toArray, List.set_cons_zero, List.set_cons_succ]
          refine wpAnyN_at (i := 2) (v := .int .i64 m) (some 16) rfl rfl (by kernel_rfl) (by kernel_rfl) (by kernel_rfl) (by kernel_rfl) (fun _ _ _ h => h) (Or.inl ⟨by rfl, ?_⟩) TS ?_
          · intro w hSw
            have q0 := cell_gr k1 hSw (fun e => e)
            have qz := World.block_lt_of_cell? _ _ q0
            go_simp
            try (intro h; exfalso; omega)
          try simp only [Act.put, List.setIfInBounds_toArray, List.set_cons_zero, List.set_cons_succ]
          refine wpAnyN_at (i := 3) (v := .int .i64 lev) (some 17) rfl rfl (by kernel_rfl) (by kernel_rfl) (by kernel_rfl) (by kernel_rfl) (fun _ _ _ h => h) (Or.inl ⟨by rfl, ?_⟩) TS ?_
          · intro w hSw
            go_simp
            try (intro h; exfalso; omega)
          try simp only [Act.put, List.setIfInBounds_toArray, List.set_cons_zero, List.set_cons_succ]
          refine wpAnyN_at (i := 4) (v := .bool true) (some 18) rfl rfl (by kernel_rfl) (by kernel_rfl) (by kernel_rfl) (by kernel_rfl) (fun _ _ _ h => h) (Or.inl ⟨by rfl, ?_⟩) TS ?_
          · intro w hSw
            go_simp
            try (intro h; exfalso; omega)
          try simp only [Act.put, List.setIfInBounds_toArray, List.set_cons_zero, List.set_cons_succ]
          refine wpAnyN_at (i := 5) (v := .bool true) (some 19) rfl rfl (by kernel_rfl) (by kernel_rfl) (by kernel_rfl) (by kernel_rfl) (fun _ _ _ h => h) (Or.inl ⟨by rfl, ?_⟩) TS ?_
          · intro w hSw
            go_simp
            try (intro h; exfalso; omega)
          try simp only [Act.put, List.setIfInBounds_toArray, List.set_cons_zero, List.set_cons_succ]
          refine wpAnyN_at (i := 6) (v := stv x p) (some 20) rfl rfl (by kernel_rfl) (by kernel_rfl) (by kernel_rfl) (by kernel_rfl) (fun _ _ _ h => h) (Or.inl ⟨by rfl, ?_⟩) TS ?_
          · intro w hSw
            have q0 := cell_gr d0 hSw (fun e => e)
            have q1 := cell_gr d1 hSw (fun e => e)
            have q2 := cell_gr d2 hSw (fun e => e)
            have q3 := cell_gr d3 hSw (fun e => e)
            have qz := World.block_lt_of_cell? _ _ q0
            go_simp
            try (intro h; exfalso; omega)
          try simp only [Act.put, List.setIfInBounds_toArray, List.set_cons_zero, List.set_cons_succ]
          refine wpAnyN_at (i := 7) (v := .int .i64 (i : Int)) (some 21) rfl rfl (by kernel_rfl) (by kernel_rfl) (by kernel_rfl) (by kernel_rfl) (fun _ _ _ h => h) (Or.inl ⟨by rfl, ?_⟩) TS ?_
          · intro w hSw
            go_simp
            try (intro h; exfalso; omega)
          try simp only [Act.put, List.setIfInBounds_toArray, List.set_cons_zero, List.set_cons_succ]
          refine wpAnyN_at (i := 8) (v := ptr (b + 1) i) (some 22) rfl rfl (by kernel_rfl) (by kernel_rfl) (by kernel_rfl) (by kernel_rfl) (fun _ _ _ h => h) (Or.inl ⟨by rfl, ?_⟩) TS ?_
          · intro w hSw
            go_simp
            try (intro h; exfalso; omega)
          try simp only [Act.put, List.setIfInBounds_toArray, List.set_cons_zero, List.set_cons_succ]
          refine wpAnyN_at (i := 9) (v := .string s) (some 23) rfl rfl (by kernel_rfl) (by kernel_rfl) (by kernel_rfl) (by kernel_rfl) (fun _ _ _ h => h) (Or.inl ⟨by rfl, ?_⟩) TS ?_
          · intro w hSw
            have q0 := cell_gr k0 hSw (fun e => e)
            have qz := World.block_lt_of_cell? _ _ q0
            go_simp
            try (intro h; exfalso; omega)
          try simp only [Act.put, List.setIfInBounds_toArray, List.set_cons_zero, List.set_cons_succ]
          refine wpAnyL_one (i := 10) (by kernel_rfl) rfl (fun K hK => ?_)
          go_simp
          refine (hcall.out wr.drew TS).mono ?_
          rintro e w2 ⟨rfl, g2⟩
          have TS : Gr (fun _ => False) wr.drew w2 := g2
          refine hK.out _ _ (fun _ => TS) ?_
          clear hK K
          try simp only [Act.put, List.setIfInBounds_toArray, List.set_cons_zero, List.set_cons_succ]
          refine wpAnyN_at (i := 11) (v := .bool false) (some 25) rfl rfl (by kernel_rfl) (by kernel_rfl) (by kernel_rfl) (by kernel_rfl) (fun _ _ _ h => h) (Or.inl ⟨by rfl, ?_⟩) TS ?_
          · intro w hSw
            go_simp
            try (intro h; exfalso; omega)
          try simp only [Act.put, List.setIfInBounds_toArray, List.set_cons_zero, List.set_cons_succ]
          refine wpAnyL_done (by kernel_rfl) ?_ _
          refine NoPanic.normal ?_
          go_wp2_with fail
          exact ⟨⟨i + 1, hlt, by go_num, hr3, GD.out.trans TS⟩, by simp [intOf]; omega⟩
    · have hd : decide ((i : Int) < 11) = false := by simp; omega
      obtain rfl : i = 11 := by omega
      have hrn : r = none := by rw [hR.out]; rfl
      subst hrn
      go_wp2_with fail
      go_ret
      exact ⟨rfl, g0.trans hG.out⟩
end Go.Proofs.YtggkjkkbkpnkiaaGreatDoor
