/-
  The walk of LexJoins.
-/
import Derived.Test.YtnojhboflegkdaaDoorV
import Derived.Test.YtnojhboflegkdaaDoorY
import Derived.Laws.Concat
set_option linter.unusedVariables false
set_option linter.unusedSimpArgs false
namespace Go.Proofs.YtnojhboflegkdaaDoor
open Go.RowKit Go.Maps
section
variable {P : Program} {ops : Array Oper} {Q : Exit → Act → World → Prop} {md : Region.Mode} {S : World → Prop}
theorem wpAnyH_at {i : Nat} {oi : Oper} {v : Value} (d : Option Tmp) {fuel : Nat} {listed : Array Bool} {a : Act} {w : World} (hi : ops[i]? = some oi) (hd : oi.dst = d)
    (hs : Region.noSelect ops = true) (hf : Region.free md ops listed i = true) (hr : (Region.ready md ops listed).contains i = true)
    (hQ : ∀ c a w, Q (.panic c) (a.put d v) w → Q (.panic c) a w) (hy : YieldsIf P ops S oi v a) (hS : S w)
    (h : wpAnyH P md ops Q S fuel (listed.setIfInBounds i true) (a.put d v) w) : wpAnyH P md ops Q S (fuel + 1) listed a w := by
  subst hd; exact wpAnyH_take hi hs hf hr hQ hy hS h
end
theorem smV_mv (d : Nat) (t : Tok) : smV (mv d t) t = true := by simp [smV, mv]
/-- A text, a line's end, and another one. -/
abbrev jo (a b : ByteArray) : ByteArray := (a ++ ⟨#[10]⟩) ++ b
theorem jo_size (a b : ByteArray) : (jo a b).size = a.size + 1 + b.size := by
  unfold jo; rw [ByteArray.size_append, ByteArray.size_append]; rfl
theorem jo_jn (a b : ByteArray) : Jn a b (jo a b) := by
  have hz := jo_size a b
  have hd : (jo a b).data = (a.data ++ #[10]) ++ b.data := by unfold jo; rw [ByteArray.data_append, ByteArray.data_append]
  have h1 : (a.data ++ #[10]).size = a.size + 1 := by rw [Array.size_append]; rfl
  refine ⟨hz, fun k hk => ?_, ?_, fun k => ?_⟩
  · rw [pk, if_pos (by omega), pk, if_pos hk, bt, hd, Array.getElem?_append_left (by omega), Array.getElem?_append_left (show k < a.data.size from hk)]; rfl
  · rw [pk, if_pos (by omega), bt, hd, Array.getElem?_append_left (by omega), Array.getElem?_append_right (show a.data.size ≤ a.size from Nat.le_refl _), show a.size - a.data.size = 0 from Nat.sub_self _]; rfl
  · by_cases hk : k < b.size
    · rw [pk, if_pos (by omega), pk, if_pos hk, bt, hd, Array.getElem?_append_right (by omega), h1, show a.size + 1 + k - (a.size + 1) = k by omega]; rfl
    · rw [pk, if_neg (by omega), pk, if_neg hk]

set_option maxRecDepth 100000 in
set_option maxHeartbeats 8000000 in
theorem joins_in (a b : ByteArray) (W : World) (x y : List Tok) (hlx : x.length ≤ 4000) (hly : y.length ≤ 4000) (hla : a.size ≤ 16384) (hlb : b.size ≤ 16384)
    (hz : a.size + b.size + 1 ≤ 16384) (hby : ∀ t ∈ y, t.at' < b.size) (hl : x.length + y.length ≤ 4000) (ha : Calls Tryd.prog 9 #[] W fun e w' => e = .returned (.bool true) ∧ Gr (fun _ => False) W w')
    (hx : ∀ w, Gr (fun _ => False) W w → Calls Tryd.prog 10 #[.string a] w fun e w' => EndS w e w' (.ok x)) (hy : ∀ w, Gr (fun _ => False) W w → Calls Tryd.prog 10 #[.string b] w fun e w' => EndS w e w' (.ok y))
    (hj : ∀ w, Gr (fun _ => False) W w → Calls Tryd.prog 10 #[.string (jo a b)] w fun e w' => EndS w e w' (.ok (x ++ y.map (mv (a.size + 1))))) :
    Calls Tryd.prog 7 #[.string a, .string b] W fun e w' => e = .returned (.bool true) ∧ Gr (fun _ => False) W w' := by
  have kI : (a.size : Int) + (b.size : Int) + 1 ≤ 16384 := by omega
  have lI : (x.length : Int) + (y.length : Int) ≤ 4000 := by omega
  have s1c : (⟨#[10]⟩ : ByteArray).size = 1 := rfl
  obtain ⟨z, hzz⟩ : ∃ z, x ++ y.map (mv (a.size + 1)) = z := ⟨_, rfl⟩
  rw [hzz] at hj
  have hzl : z.length = x.length + y.length := by rw [← hzz]; simp
  have hz1 : ∀ i t, x[i]? = some t → z[i]? = some t := fun i t h => by
    rw [← hzz, List.getElem?_append_left (List.getElem?_eq_some_iff.1 h).1]; exact h
  have hz2 : ∀ i t, y[i]? = some t → z[x.length + i]? = some (mv (a.size + 1) t) := fun i t h => by
    rw [← hzz, List.getElem?_append_right (by omega), show x.length + i - x.length = i by omega, List.getElem?_map, h]; rfl
  replace hz1 := Lib.hid hz1
  replace hz2 := Lib.hid hz2
  replace hzl := Lib.hid hzl
  have hzI : ((z.length : Int) != (x.length : Int) + (y.length : Int)) = false := by rw [bne_eq_false_iff_eq, hzl.out]; omega
  have Hl := Lib.hid hl
  have laI : (a.size : Int) ≤ 16384 := by omega
  have lxI : (x.length : Int) ≤ 4000 := by omega
  replace hby := Lib.hid hby
  have Hz := Lib.hid hz
  clear hzz hlx hly hla hlb hz hl
  go_enter Tryd.func7, Tryd.ntmps7
  go_wp2_with fail
  refine ha.mono ?_
  rintro e w1 ⟨rfl, hg1⟩
  go_wp2_with fail
  refine (hx _ hg1).mono ?_
  rintro e w2 ⟨sx, vx, rfl, hTx, hg2⟩
  obtain ⟨xa, xc, rfl⟩ := hTx.sv
  go_wp2_with fail
  refine (hy _ (hg1.trans hg2)).mono ?_
  rintro e w3 ⟨sy, vy, rfl, hTy, hg3⟩
  obtain ⟨ya, yc, rfl⟩ := hTy.sv
  have hG3 := (hg1.trans hg2).trans hg3
  go_wp2_with fail
  refine (hj _ hG3).mono ?_
  rintro e w4 ⟨sz, vz, rfl, hTz, hg4⟩
  obtain ⟨za, zc, rfl⟩ := hTz.sv
  have hG4 := Lib.hid (hG3.trans hg4)
  have TX := Lib.hid (hTx.gr (hg3.trans hg4) (fun _ _ e => e))
  have TY := Lib.hid (hTy.gr hg4 (fun _ _ e => e))
  have TZ := Lib.hid hTz
  clear hTx hTy hTz hg1 hg2 hg3 hG3 hg4 ha hx hy hj
  go_wp2_with fail
  go_loopw [14] (fun v wr => ∃ j : Nat, j ≤ z.length ∧ v = .int .i64 (j : Int) ∧ Hid (Gr (fun _ => False) w4 wr)) (fun v _ => z.length - (intOf v).toNat)
  case atStart => exact ⟨0, Nat.zero_le _, rfl, Gr.refl _ _⟩
  case round =>
    obtain ⟨j, hj, rfl, hgr⟩ := hrel
    by_cases hlt : j < z.length
    · have hjI : (j : Int) < (z.length : Int) := by omega
      obtain ⟨g, rfl, hgl, hcap, hrow⟩ := TZ.out.row (by omega)
      have hglw : g < wr.heap.size := by have := hgr.out.size; omega
      have zI : (z.length : Int) ≤ 4000 := by have := hzl.out; have := Hl.out; omega
      by_cases hjx : j < x.length
      · have hjxI : (j : Int) < (x.length : Int) := by omega
        have hjxD : decide ((x.length : Int) ≤ (j : Int)) = false := by simp; omega
        have hjxN : decide (x.length ≤ j) = false := by simp; omega
        obtain ⟨h, rfl, hhl, hcap2, hrow2⟩ := TX.out.row (by omega)
        have hhlw : h < wr.heap.size := by have := hgr.out.size; omega
        obtain ⟨t, ht⟩ : ∃ t, x[j]? = some t := ⟨_, List.getElem?_eq_getElem hjx⟩
        have gD := hgr.out.trans (Gr.drew wr _)
        obtain ⟨ba, bc, hB, x0, x1, x2, x3, x4⟩ := (hrow j t (hz1.out j t ht)).gr gD
        obtain ⟨ca, cc, hC, y0, y1, y2, y3, y4⟩ := (hrow2 j t ht).gr gD
        have s1 : S10 g (j * 5) h (j * 5) t t (.slice ba t.b.length bc) (.slice ca t.b.length cc) wr.drew := ⟨x0, x1, x2, x3, x4, y0, y1, y2, y3, y4⟩
        have hsm := fun w (g : Gr (fun _ => False) wr.drew w) => same_c w t t _ _ (hB.sb.gr g) (hC.sb.gr g) t.at' t.at'
        rw [smV_self] at hsm
        replace hsm := Lib.hid hsm
        have GD := Lib.hid gD
        clear hrow hrow2 ht hB hC gD hgl hhl x0 x1 x2 x3 x4 y0 y1 y2 y3 y4
        go_wp2_with fail
        go_region_held3 (S10 g (j * 5) h (j * 5) t t (.slice ba t.b.length bc) (.slice ca t.b.length cc)) (with_reducible assumption)
          (first
            | (go_at_call 17; with_reducible refine (hsm.out _ (Gr.refl _ _)).mono ?_; rintro e w9 ⟨rfl, hg9⟩; have s2 := S10.gr s1 hg9; have G9 := Lib.hid hg9; clear hg9)
            | fail)
        rename_i hHd
        clear s1 s2 hHd
        go_wp2_with fail
        refine wp_region_noPanic (wp_region_held_drew (S := fun _ => True) (by kernel_rfl) trivial (fun _ => ?_))
        refine wpAnyH_at (i := 0) (v := (.int .i64 (j : Int))) (some 108) rfl rfl (by kernel_rfl) (by kernel_rfl) (by kernel_rfl) (fun _ _ _ h => h) (Or.inl ⟨by rfl, ?_⟩) trivial ?_
        · intro w hSw
          go_simp
        try simp only [Act.put, List.setIfInBounds_toArray, List.set_cons_zero, List.set_cons_succ]
        refine wpAnyH_at (i := 1) (v := (.slice (some ⟨h, 0, none⟩) x.length xc)) (some 109) rfl rfl (by kernel_rfl) (by kernel_rfl) (by kernel_rfl) (fun _ _ _ h => h) (Or.inl ⟨by rfl, ?_⟩) trivial ?_
        · intro w hSw
          go_simp
        try simp only [Act.put, List.setIfInBounds_toArray, List.set_cons_zero, List.set_cons_succ]
        refine wpAnyH_at (i := 2) (v := (.int .i64 (x.length : Int))) (some 110) rfl rfl (by kernel_rfl) (by kernel_rfl) (by kernel_rfl) (fun _ _ _ h => h) (Or.inl ⟨by rfl, ?_⟩) trivial ?_
        · intro w hSw
          go_simp
        try simp only [Act.put, List.setIfInBounds_toArray, List.set_cons_zero, List.set_cons_succ]
        refine wpAnyH_at (i := 3) (v := (.bool false)) (some 111) rfl rfl (by kernel_rfl) (by kernel_rfl) (by kernel_rfl) (fun _ _ _ h => h) (Or.inl ⟨by rfl, ?_⟩) trivial ?_
        · intro w hSw
          go_simp
        try simp only [Act.put, List.setIfInBounds_toArray, List.set_cons_zero, List.set_cons_succ]
        refine wpAnyH_at (i := 4) (v := (.bool false)) (some 112) rfl rfl (by kernel_rfl) (by kernel_rfl) (by kernel_rfl) (fun _ _ _ h => h) (Or.inl ⟨by rfl, ?_⟩) trivial ?_
        · intro w hSw
          go_simp
        try simp only [Act.put, List.setIfInBounds_toArray, List.set_cons_zero, List.set_cons_succ]
        refine wpAnyH_at (i := 5) (v := undef) (some 113) rfl rfl (by kernel_rfl) (by kernel_rfl) (by kernel_rfl) (fun _ _ _ h => h) (Or.inr ⟨by rfl, rfl⟩) trivial ?_
        try simp only [Act.put, List.setIfInBounds_toArray, List.set_cons_zero, List.set_cons_succ]
        refine wpAnyH_at (i := 6) (v := undef) (some 114) rfl rfl (by kernel_rfl) (by kernel_rfl) (by kernel_rfl) (fun _ _ _ h => h) (Or.inr ⟨by rfl, rfl⟩) trivial ?_
        try simp only [Act.put, List.setIfInBounds_toArray, List.set_cons_zero, List.set_cons_succ]
        refine wpAnyH_at (i := 7) (v := undef) (some 115) rfl rfl (by kernel_rfl) (by kernel_rfl) (by kernel_rfl) (fun _ _ _ h => h) (Or.inr ⟨by rfl, rfl⟩) trivial ?_
        try simp only [Act.put, List.setIfInBounds_toArray, List.set_cons_zero, List.set_cons_succ]
        refine wpAnyH_at (i := 8) (v := undef) (some 116) rfl rfl (by kernel_rfl) (by kernel_rfl) (by kernel_rfl) (fun _ _ _ h => h) (Or.inr ⟨by rfl, rfl⟩) trivial ?_
        try simp only [Act.put, List.setIfInBounds_toArray, List.set_cons_zero, List.set_cons_succ]
        refine wpAnyH_at (i := 9) (v := undef) (some 117) rfl rfl (by kernel_rfl) (by kernel_rfl) (by kernel_rfl) (fun _ _ _ h => h) (Or.inr ⟨by rfl, rfl⟩) trivial ?_
        try simp only [Act.put, List.setIfInBounds_toArray, List.set_cons_zero, List.set_cons_succ]
        refine wpAnyH_at (i := 10) (v := undef) (some 118) rfl rfl (by kernel_rfl) (by kernel_rfl) (by kernel_rfl) (fun _ _ _ h => h) (Or.inr ⟨by rfl, rfl⟩) trivial ?_
        try simp only [Act.put, List.setIfInBounds_toArray, List.set_cons_zero, List.set_cons_succ]
        refine wpAnyH_at (i := 11) (v := undef) (some 119) rfl rfl (by kernel_rfl) (by kernel_rfl) (by kernel_rfl) (fun _ _ _ h => h) (Or.inr ⟨by rfl, rfl⟩) trivial ?_
        try simp only [Act.put, List.setIfInBounds_toArray, List.set_cons_zero, List.set_cons_succ]
        refine wpAnyH_at (i := 12) (v := undef) (some 120) rfl rfl (by kernel_rfl) (by kernel_rfl) (by kernel_rfl) (fun _ _ _ h => h) (Or.inr ⟨by rfl, rfl⟩) trivial ?_
        try simp only [Act.put, List.setIfInBounds_toArray, List.set_cons_zero, List.set_cons_succ]
        refine wpAnyH_at (i := 13) (v := undef) (some 121) rfl rfl (by kernel_rfl) (by kernel_rfl) (by kernel_rfl) (fun _ _ _ h => h) (Or.inr ⟨by rfl, rfl⟩) trivial ?_
        try simp only [Act.put, List.setIfInBounds_toArray, List.set_cons_zero, List.set_cons_succ]
        refine wpAnyH_at (i := 14) (v := undef) (some 122) rfl rfl (by kernel_rfl) (by kernel_rfl) (by kernel_rfl) (fun _ _ _ h => h) (Or.inr ⟨by rfl, rfl⟩) trivial ?_
        try simp only [Act.put, List.setIfInBounds_toArray, List.set_cons_zero, List.set_cons_succ]
        refine wpAnyH_at (i := 15) (v := undef) (some 123) rfl rfl (by kernel_rfl) (by kernel_rfl) (by kernel_rfl) (fun _ _ _ h => h) (Or.inr ⟨by rfl, rfl⟩) trivial ?_
        try simp only [Act.put, List.setIfInBounds_toArray, List.set_cons_zero, List.set_cons_succ]
        refine wpAnyH_at (i := 16) (v := undef) (some 124) rfl rfl (by kernel_rfl) (by kernel_rfl) (by kernel_rfl) (fun _ _ _ h => h) (Or.inr ⟨by rfl, rfl⟩) trivial ?_
        try simp only [Act.put, List.setIfInBounds_toArray, List.set_cons_zero, List.set_cons_succ]
        refine wpAnyH_at (i := 17) (v := undef) (some 125) rfl rfl (by kernel_rfl) (by kernel_rfl) (by kernel_rfl) (fun _ _ _ h => h) (Or.inr ⟨by rfl, rfl⟩) trivial ?_
        try simp only [Act.put, List.setIfInBounds_toArray, List.set_cons_zero, List.set_cons_succ]
        refine wpAnyH_at (i := 18) (v := undef) (some 126) rfl rfl (by kernel_rfl) (by kernel_rfl) (by kernel_rfl) (fun _ _ _ h => h) (Or.inr ⟨by rfl, rfl⟩) trivial ?_
        try simp only [Act.put, List.setIfInBounds_toArray, List.set_cons_zero, List.set_cons_succ]
        refine wpAnyH_at (i := 19) (v := undef) (some 127) rfl rfl (by kernel_rfl) (by kernel_rfl) (by kernel_rfl) (fun _ _ _ h => h) (Or.inr ⟨by rfl, rfl⟩) trivial ?_
        try simp only [Act.put, List.setIfInBounds_toArray, List.set_cons_zero, List.set_cons_succ]
        refine wpAnyH_at (i := 20) (v := undef) (some 128) rfl rfl (by kernel_rfl) (by kernel_rfl) (by kernel_rfl) (fun _ _ _ h => h) (Or.inr ⟨by rfl, rfl⟩) trivial ?_
        try simp only [Act.put, List.setIfInBounds_toArray, List.set_cons_zero, List.set_cons_succ]
        refine wpAnyH_at (i := 21) (v := undef) (some 129) rfl rfl (by kernel_rfl) (by kernel_rfl) (by kernel_rfl) (fun _ _ _ h => h) (Or.inr ⟨by rfl, rfl⟩) trivial ?_
        try simp only [Act.put, List.setIfInBounds_toArray, List.set_cons_zero, List.set_cons_succ]
        refine wpAnyH_at (i := 22) (v := undef) (some 130) rfl rfl (by kernel_rfl) (by kernel_rfl) (by kernel_rfl) (fun _ _ _ h => h) (Or.inr ⟨by rfl, rfl⟩) trivial ?_
        try simp only [Act.put, List.setIfInBounds_toArray, List.set_cons_zero, List.set_cons_succ]
        refine wpAnyH_at (i := 23) (v := undef) (some 131) rfl rfl (by kernel_rfl) (by kernel_rfl) (by kernel_rfl) (fun _ _ _ h => h) (Or.inr ⟨by rfl, rfl⟩) trivial ?_
        try simp only [Act.put, List.setIfInBounds_toArray, List.set_cons_zero, List.set_cons_succ]
        refine wpAnyH_at (i := 24) (v := undef) (some 132) rfl rfl (by kernel_rfl) (by kernel_rfl) (by kernel_rfl) (fun _ _ _ h => h) (Or.inr ⟨by rfl, rfl⟩) trivial ?_
        try simp only [Act.put, List.setIfInBounds_toArray, List.set_cons_zero, List.set_cons_succ]
        refine wpAnyH_at (i := 25) (v := undef) (some 133) rfl rfl (by kernel_rfl) (by kernel_rfl) (by kernel_rfl) (fun _ _ _ h => h) (Or.inr ⟨by rfl, rfl⟩) trivial ?_
        try simp only [Act.put, List.setIfInBounds_toArray, List.set_cons_zero, List.set_cons_succ]
        refine wpAnyH_at (i := 26) (v := undef) (some 134) rfl rfl (by kernel_rfl) (by kernel_rfl) (by kernel_rfl) (fun _ _ _ h => h) (Or.inr ⟨by rfl, rfl⟩) trivial ?_
        try simp only [Act.put, List.setIfInBounds_toArray, List.set_cons_zero, List.set_cons_succ]
        refine wpAnyH_at (i := 27) (v := undef) (some 135) rfl rfl (by kernel_rfl) (by kernel_rfl) (by kernel_rfl) (fun _ _ _ h => h) (Or.inr ⟨by rfl, rfl⟩) trivial ?_
        try simp only [Act.put, List.setIfInBounds_toArray, List.set_cons_zero, List.set_cons_succ]
        refine wpAnyH_at (i := 28) (v := undef) (some 136) rfl rfl (by kernel_rfl) (by kernel_rfl) (by kernel_rfl) (fun _ _ _ h => h) (Or.inr ⟨by rfl, rfl⟩) trivial ?_
        try simp only [Act.put, List.setIfInBounds_toArray, List.set_cons_zero, List.set_cons_succ]
        refine wpAnyH_at (i := 29) (v := undef) (some 137) rfl rfl (by kernel_rfl) (by kernel_rfl) (by kernel_rfl) (fun _ _ _ h => h) (Or.inr ⟨by rfl, rfl⟩) trivial ?_
        try simp only [Act.put, List.setIfInBounds_toArray, List.set_cons_zero, List.set_cons_succ]
        refine wpAnyH_at (i := 30) (v := undef) (some 138) rfl rfl (by kernel_rfl) (by kernel_rfl) (by kernel_rfl) (fun _ _ _ h => h) (Or.inr ⟨by rfl, rfl⟩) trivial ?_
        try simp only [Act.put, List.setIfInBounds_toArray, List.set_cons_zero, List.set_cons_succ]
        refine wpAnyH_at (i := 31) (v := undef) (some 139) rfl rfl (by kernel_rfl) (by kernel_rfl) (by kernel_rfl) (fun _ _ _ h => h) (Or.inr ⟨by rfl, rfl⟩) trivial ?_
        try simp only [Act.put, List.setIfInBounds_toArray, List.set_cons_zero, List.set_cons_succ]
        refine wpAnyH_at (i := 32) (v := undef) (some 140) rfl rfl (by kernel_rfl) (by kernel_rfl) (by kernel_rfl) (fun _ _ _ h => h) (Or.inr ⟨by rfl, rfl⟩) trivial ?_
        try simp only [Act.put, List.setIfInBounds_toArray, List.set_cons_zero, List.set_cons_succ]
        refine wpAnyH_at (i := 33) (v := undef) (some 141) rfl rfl (by kernel_rfl) (by kernel_rfl) (by kernel_rfl) (fun _ _ _ h => h) (Or.inr ⟨by rfl, rfl⟩) trivial ?_
        try simp only [Act.put, List.setIfInBounds_toArray, List.set_cons_zero, List.set_cons_succ]
        refine wpAnyH_at (i := 34) (v := undef) (some 142) rfl rfl (by kernel_rfl) (by kernel_rfl) (by kernel_rfl) (fun _ _ _ h => h) (Or.inr ⟨by rfl, rfl⟩) trivial ?_
        try simp only [Act.put, List.setIfInBounds_toArray, List.set_cons_zero, List.set_cons_succ]
        refine wpAnyH_at (i := 35) (v := undef) (some 143) rfl rfl (by kernel_rfl) (by kernel_rfl) (by kernel_rfl) (fun _ _ _ h => h) (Or.inr ⟨by rfl, rfl⟩) trivial ?_
        try simp only [Act.put, List.setIfInBounds_toArray, List.set_cons_zero, List.set_cons_succ]
        refine wpAnyH_at (i := 36) (v := undef) (some 144) rfl rfl (by kernel_rfl) (by kernel_rfl) (by kernel_rfl) (fun _ _ _ h => h) (Or.inr ⟨by rfl, rfl⟩) trivial ?_
        try simp only [Act.put, List.setIfInBounds_toArray, List.set_cons_zero, List.set_cons_succ]
        refine wpAnyH_at (i := 37) (v := undef) (some 145) rfl rfl (by kernel_rfl) (by kernel_rfl) (by kernel_rfl) (fun _ _ _ h => h) (Or.inr ⟨by rfl, rfl⟩) trivial ?_
        try simp only [Act.put, List.setIfInBounds_toArray, List.set_cons_zero, List.set_cons_succ]
        refine wpAnyH_at (i := 38) (v := (.bool false)) (some 146) rfl rfl (by kernel_rfl) (by kernel_rfl) (by kernel_rfl) (fun _ _ _ h => h) (Or.inl ⟨by rfl, ?_⟩) trivial ?_
        · intro w hSw
          go_simp
        try simp only [Act.put, List.setIfInBounds_toArray, List.set_cons_zero, List.set_cons_succ]
        refine wpAnyH_done (by kernel_rfl) ?_ _
        refine NoPanic.normal ?_
        go_wp2_with fail
        exact ⟨⟨j + 1, by omega, by go_num, (GD.out.trans G9.out).trans (Gr.drew _ _)⟩, by simp [intOf]; omega⟩
      · have hjxI : decide ((j : Int) < (x.length : Int)) = false := by simp; omega
        have hjxJ : (x.length : Int) ≤ (j : Int) := by omega
        obtain ⟨m, hm⟩ : ∃ m, j = x.length + m := ⟨j - x.length, by omega⟩
        have hmy : m < y.length := by have := hzl.out; omega
        have hmI : (m : Int) < (y.length : Int) := by omega
        have hsub : (j : Int) - (x.length : Int) = (m : Int) := by omega
        have hwr : IntKind.i64.wrap (m : Int) = (m : Int) := by rw [IntKind.wrap_i64]; omega
        have hm0 : (0 : Int) ≤ (m : Int) := by omega
        obtain ⟨h, rfl, hhl, hcap2, hrow2⟩ := TY.out.row (by omega)
        have hhlw : h < wr.heap.size := by have := hgr.out.size; omega
        obtain ⟨t, ht⟩ : ∃ t, y[m]? = some t := ⟨_, List.getElem?_eq_getElem hmy⟩
        have htz := hz2.out m t ht
        rw [← hm] at htz
        have hsmv := smV_mv (a.size + 1) t
        have hatz : ((mv (a.size + 1) t).at' : Int) = (t.at' : Int) + (a.size : Int) + 1 := by show ((a.size + 1 + t.at' : Nat) : Int) = _; omega
        have htI : (t.at' : Int) ≤ 16384 := by have := hby.out t (List.mem_of_getElem? ht); have := Hz.out; omega
        have htJ : (t.at' : Int) + (a.size : Int) + 1 ≤ 16384 := by have := hby.out t (List.mem_of_getElem? ht); have := Hz.out; omega
        have hw1 : IntKind.i64.wrap ((t.at' : Int) + (a.size : Int)) = (t.at' : Int) + (a.size : Int) := by rw [IntKind.wrap_i64]; omega
        have hw2 : IntKind.i64.wrap ((t.at' : Int) + (a.size : Int) + 1) = (t.at' : Int) + (a.size : Int) + 1 := by rw [IntKind.wrap_i64]; omega
        generalize mv (a.size + 1) t = tz at htz hsmv hatz
        have hneq : ((tz.at' : Int) != (t.at' : Int) + (a.size : Int) + 1) = false := by rw [bne_eq_false_iff_eq]; exact hatz
        clear hm hatz
        have gD := (hgr.out.trans (Gr.drew wr _)).trans (Gr.drew _ _)
        obtain ⟨ba, bc, hB, x0, x1, x2, x3, x4⟩ := (hrow j tz htz).gr gD
        obtain ⟨ca, cc, hC, y0, y1, y2, y3, y4⟩ := (hrow2 m t ht).gr gD
        have s1 : S10 g (j * 5) h (m * 5) tz t (.slice ba tz.b.length bc) (.slice ca t.b.length cc) wr.drew.drew := ⟨x0, x1, x2, x3, x4, y0, y1, y2, y3, y4⟩
        have hsm := fun w (g : Gr (fun _ => False) wr.drew.drew w) => same_c w tz t _ _ (hB.sb.gr g) (hC.sb.gr g) tz.at' t.at'
        rw [hsmv] at hsm
        replace hsm := Lib.hid hsm
        have GD := Lib.hid gD
        have hjxN : decide (j < x.length) = false := by simp; omega
        have hjxM : x.length ≤ j := by omega
        clear hrow hrow2 ht htz hsmv hB hC gD hgl hhl x0 x1 x2 x3 x4 y0 y1 y2 y3 y4
        go_wp2_with fail
        refine wp_region_noPanic (wp_region_held_drew (S := fun _ => True) (by kernel_rfl) trivial (fun _ => ?_))
        refine wpAnyH_at (i := 0) (v := (.int .i64 (j : Int))) (some 79) rfl rfl (by kernel_rfl) (by kernel_rfl) (by kernel_rfl) (fun _ _ _ h => h) (Or.inl ⟨by rfl, ?_⟩) trivial ?_
        · intro w hSw
          go_simp
        try simp only [Act.put, List.setIfInBounds_toArray, List.set_cons_zero, List.set_cons_succ]
        refine wpAnyH_at (i := 1) (v := (.slice xa x.length xc)) (some 80) rfl rfl (by kernel_rfl) (by kernel_rfl) (by kernel_rfl) (fun _ _ _ h => h) (Or.inl ⟨by rfl, ?_⟩) trivial ?_
        · intro w hSw
          go_simp
        try simp only [Act.put, List.setIfInBounds_toArray, List.set_cons_zero, List.set_cons_succ]
        refine wpAnyH_at (i := 2) (v := (.int .i64 (x.length : Int))) (some 81) rfl rfl (by kernel_rfl) (by kernel_rfl) (by kernel_rfl) (fun _ _ _ h => h) (Or.inl ⟨by rfl, ?_⟩) trivial ?_
        · intro w hSw
          go_simp
        try simp only [Act.put, List.setIfInBounds_toArray, List.set_cons_zero, List.set_cons_succ]
        refine wpAnyH_at (i := 3) (v := (.bool false)) (some 82) rfl rfl (by kernel_rfl) (by kernel_rfl) (by kernel_rfl) (fun _ _ _ h => h) (Or.inl ⟨by rfl, ?_⟩) trivial ?_
        · intro w hSw
          go_simp
        try simp only [Act.put, List.setIfInBounds_toArray, List.set_cons_zero, List.set_cons_succ]
        refine wpAnyH_at (i := 4) (v := (.bool false)) (some 83) rfl rfl (by kernel_rfl) (by kernel_rfl) (by kernel_rfl) (fun _ _ _ h => h) (Or.inl ⟨by rfl, ?_⟩) trivial ?_
        · intro w hSw
          go_simp
        try simp only [Act.put, List.setIfInBounds_toArray, List.set_cons_zero, List.set_cons_succ]
        refine wpAnyH_at (i := 5) (v := undef) (some 84) rfl rfl (by kernel_rfl) (by kernel_rfl) (by kernel_rfl) (fun _ _ _ h => h) (Or.inr ⟨by rfl, rfl⟩) trivial ?_
        try simp only [Act.put, List.setIfInBounds_toArray, List.set_cons_zero, List.set_cons_succ]
        refine wpAnyH_at (i := 6) (v := undef) (some 85) rfl rfl (by kernel_rfl) (by kernel_rfl) (by kernel_rfl) (fun _ _ _ h => h) (Or.inr ⟨by rfl, rfl⟩) trivial ?_
        try simp only [Act.put, List.setIfInBounds_toArray, List.set_cons_zero, List.set_cons_succ]
        refine wpAnyH_at (i := 7) (v := undef) (some 86) rfl rfl (by kernel_rfl) (by kernel_rfl) (by kernel_rfl) (fun _ _ _ h => h) (Or.inr ⟨by rfl, rfl⟩) trivial ?_
        try simp only [Act.put, List.setIfInBounds_toArray, List.set_cons_zero, List.set_cons_succ]
        refine wpAnyH_at (i := 8) (v := undef) (some 87) rfl rfl (by kernel_rfl) (by kernel_rfl) (by kernel_rfl) (fun _ _ _ h => h) (Or.inr ⟨by rfl, rfl⟩) trivial ?_
        try simp only [Act.put, List.setIfInBounds_toArray, List.set_cons_zero, List.set_cons_succ]
        refine wpAnyH_at (i := 9) (v := undef) (some 88) rfl rfl (by kernel_rfl) (by kernel_rfl) (by kernel_rfl) (fun _ _ _ h => h) (Or.inr ⟨by rfl, rfl⟩) trivial ?_
        try simp only [Act.put, List.setIfInBounds_toArray, List.set_cons_zero, List.set_cons_succ]
        refine wpAnyH_at (i := 10) (v := undef) (some 89) rfl rfl (by kernel_rfl) (by kernel_rfl) (by kernel_rfl) (fun _ _ _ h => h) (Or.inr ⟨by rfl, rfl⟩) trivial ?_
        try simp only [Act.put, List.setIfInBounds_toArray, List.set_cons_zero, List.set_cons_succ]
        refine wpAnyH_at (i := 11) (v := undef) (some 90) rfl rfl (by kernel_rfl) (by kernel_rfl) (by kernel_rfl) (fun _ _ _ h => h) (Or.inr ⟨by rfl, rfl⟩) trivial ?_
        try simp only [Act.put, List.setIfInBounds_toArray, List.set_cons_zero, List.set_cons_succ]
        refine wpAnyH_at (i := 12) (v := undef) (some 91) rfl rfl (by kernel_rfl) (by kernel_rfl) (by kernel_rfl) (fun _ _ _ h => h) (Or.inr ⟨by rfl, rfl⟩) trivial ?_
        try simp only [Act.put, List.setIfInBounds_toArray, List.set_cons_zero, List.set_cons_succ]
        refine wpAnyH_at (i := 13) (v := undef) (some 92) rfl rfl (by kernel_rfl) (by kernel_rfl) (by kernel_rfl) (fun _ _ _ h => h) (Or.inr ⟨by rfl, rfl⟩) trivial ?_
        try simp only [Act.put, List.setIfInBounds_toArray, List.set_cons_zero, List.set_cons_succ]
        refine wpAnyH_at (i := 14) (v := undef) (some 93) rfl rfl (by kernel_rfl) (by kernel_rfl) (by kernel_rfl) (fun _ _ _ h => h) (Or.inr ⟨by rfl, rfl⟩) trivial ?_
        try simp only [Act.put, List.setIfInBounds_toArray, List.set_cons_zero, List.set_cons_succ]
        refine wpAnyH_at (i := 15) (v := undef) (some 94) rfl rfl (by kernel_rfl) (by kernel_rfl) (by kernel_rfl) (fun _ _ _ h => h) (Or.inr ⟨by rfl, rfl⟩) trivial ?_
        try simp only [Act.put, List.setIfInBounds_toArray, List.set_cons_zero, List.set_cons_succ]
        refine wpAnyH_at (i := 16) (v := undef) (some 95) rfl rfl (by kernel_rfl) (by kernel_rfl) (by kernel_rfl) (fun _ _ _ h => h) (Or.inr ⟨by rfl, rfl⟩) trivial ?_
        try simp only [Act.put, List.setIfInBounds_toArray, List.set_cons_zero, List.set_cons_succ]
        refine wpAnyH_at (i := 17) (v := undef) (some 96) rfl rfl (by kernel_rfl) (by kernel_rfl) (by kernel_rfl) (fun _ _ _ h => h) (Or.inr ⟨by rfl, rfl⟩) trivial ?_
        try simp only [Act.put, List.setIfInBounds_toArray, List.set_cons_zero, List.set_cons_succ]
        refine wpAnyH_at (i := 18) (v := undef) (some 97) rfl rfl (by kernel_rfl) (by kernel_rfl) (by kernel_rfl) (fun _ _ _ h => h) (Or.inr ⟨by rfl, rfl⟩) trivial ?_
        try simp only [Act.put, List.setIfInBounds_toArray, List.set_cons_zero, List.set_cons_succ]
        refine wpAnyH_at (i := 19) (v := undef) (some 98) rfl rfl (by kernel_rfl) (by kernel_rfl) (by kernel_rfl) (fun _ _ _ h => h) (Or.inr ⟨by rfl, rfl⟩) trivial ?_
        try simp only [Act.put, List.setIfInBounds_toArray, List.set_cons_zero, List.set_cons_succ]
        refine wpAnyH_at (i := 20) (v := undef) (some 99) rfl rfl (by kernel_rfl) (by kernel_rfl) (by kernel_rfl) (fun _ _ _ h => h) (Or.inr ⟨by rfl, rfl⟩) trivial ?_
        try simp only [Act.put, List.setIfInBounds_toArray, List.set_cons_zero, List.set_cons_succ]
        refine wpAnyH_at (i := 21) (v := undef) (some 100) rfl rfl (by kernel_rfl) (by kernel_rfl) (by kernel_rfl) (fun _ _ _ h => h) (Or.inr ⟨by rfl, rfl⟩) trivial ?_
        try simp only [Act.put, List.setIfInBounds_toArray, List.set_cons_zero, List.set_cons_succ]
        refine wpAnyH_at (i := 22) (v := undef) (some 101) rfl rfl (by kernel_rfl) (by kernel_rfl) (by kernel_rfl) (fun _ _ _ h => h) (Or.inr ⟨by rfl, rfl⟩) trivial ?_
        try simp only [Act.put, List.setIfInBounds_toArray, List.set_cons_zero, List.set_cons_succ]
        refine wpAnyH_at (i := 23) (v := undef) (some 102) rfl rfl (by kernel_rfl) (by kernel_rfl) (by kernel_rfl) (fun _ _ _ h => h) (Or.inr ⟨by rfl, rfl⟩) trivial ?_
        try simp only [Act.put, List.setIfInBounds_toArray, List.set_cons_zero, List.set_cons_succ]
        refine wpAnyH_at (i := 24) (v := undef) (some 103) rfl rfl (by kernel_rfl) (by kernel_rfl) (by kernel_rfl) (fun _ _ _ h => h) (Or.inr ⟨by rfl, rfl⟩) trivial ?_
        try simp only [Act.put, List.setIfInBounds_toArray, List.set_cons_zero, List.set_cons_succ]
        refine wpAnyH_at (i := 25) (v := undef) (some 104) rfl rfl (by kernel_rfl) (by kernel_rfl) (by kernel_rfl) (fun _ _ _ h => h) (Or.inr ⟨by rfl, rfl⟩) trivial ?_
        try simp only [Act.put, List.setIfInBounds_toArray, List.set_cons_zero, List.set_cons_succ]
        refine wpAnyH_at (i := 26) (v := undef) (some 105) rfl rfl (by kernel_rfl) (by kernel_rfl) (by kernel_rfl) (fun _ _ _ h => h) (Or.inr ⟨by rfl, rfl⟩) trivial ?_
        try simp only [Act.put, List.setIfInBounds_toArray, List.set_cons_zero, List.set_cons_succ]
        refine wpAnyH_at (i := 27) (v := undef) (some 106) rfl rfl (by kernel_rfl) (by kernel_rfl) (by kernel_rfl) (fun _ _ _ h => h) (Or.inr ⟨by rfl, rfl⟩) trivial ?_
        try simp only [Act.put, List.setIfInBounds_toArray, List.set_cons_zero, List.set_cons_succ]
        refine wpAnyH_at (i := 28) (v := (.bool false)) (some 107) rfl rfl (by kernel_rfl) (by kernel_rfl) (by kernel_rfl) (fun _ _ _ h => h) (Or.inl ⟨by rfl, ?_⟩) trivial ?_
        · intro w hSw
          go_simp
        try simp only [Act.put, List.setIfInBounds_toArray, List.set_cons_zero, List.set_cons_succ]
        refine wpAnyH_done (by kernel_rfl) ?_ _
        refine NoPanic.normal ?_
        go_wp2_with fail
        go_region_held3 (S10 g (j * 5) h (m * 5) tz t (.slice ba tz.b.length bc) (.slice ca t.b.length cc)) (with_reducible assumption)
          (first
            | (go_at_call 17; with_reducible refine (hsm.out _ (Gr.refl _ _)).mono ?_; rintro e w9 ⟨rfl, hg9⟩; have s2 := S10.gr s1 hg9; have G9 := Lib.hid hg9; clear hg9)
            | fail)
        rename_i hHd
        clear s1 s2 hHd
        go_wp2_with fail
        exact ⟨⟨j + 1, by omega, by go_num, GD.out.trans G9.out⟩, by simp [intOf]; omega⟩
    · obtain rfl : j = z.length := by omega
      go_wp2_with fail
      go_ret
      exact ⟨rfl, hG4.out.trans hgr.out⟩

theorem joins_out (a b : ByteArray) (W : World) (hma : a.size ≤ maxLen) (hmb : b.size ≤ maxLen) (ea eb : Except (Nat × Int) (List Tok)) (hda : scanV a = ea) (hdb : scanV b = eb)
    (ho : (∀ x y, ea = .ok x → eb = .ok y → 16384 < a.size + b.size + 1 ∨ 4000 < x.length + y.length)) (ha : Calls Tryd.prog 9 #[] W fun e w' => e = .returned (.bool true) ∧ Gr (fun _ => False) W w')
    (hx : ∀ w, Gr (fun _ => False) W w → Calls Tryd.prog 10 #[.string a] w fun e w' => EndS w e w' ea) (hy : ∀ w, Gr (fun _ => False) W w → Calls Tryd.prog 10 #[.string b] w fun e w' => EndS w e w' eb) :
    Calls Tryd.prog 7 #[.string a, .string b] W fun e w' => e = .returned (.bool true) ∧ Gr (fun _ => False) W w' := by
  rcases ea with ⟨i, c⟩ | x
  · obtain ⟨e1, e2, e3⟩ := scanV_err hda
    have c1 : (c != 0) = true := by rw [bne_iff_ne]; omega
    clear hda hdb ho e1 e2 e3 hma hmb
    rcases eb with ⟨i2, c2⟩ | y
    · go_enter Tryd.func7, Tryd.ntmps7
      go_wp2_with fail
      refine ha.mono ?_
      rintro e w1 ⟨rfl, hg1⟩
      go_wp2_with fail
      refine (hx _ hg1).mono ?_
      rintro e w2 ⟨rfl, hg2⟩
      go_wp2_with fail
      refine (hy _ (hg1.trans hg2)).mono ?_
      rintro e w3 ⟨rfl, hg3⟩
      go_wp2_with fail
      go_ret
      exact ⟨rfl, (hg1.trans hg2).trans hg3⟩
    · go_enter Tryd.func7, Tryd.ntmps7
      go_wp2_with fail
      refine ha.mono ?_
      rintro e w1 ⟨rfl, hg1⟩
      go_wp2_with fail
      refine (hx _ hg1).mono ?_
      rintro e w2 ⟨rfl, hg2⟩
      go_wp2_with fail
      refine (hy _ (hg1.trans hg2)).mono ?_
      rintro e w3 ⟨sy, vy, rfl, hTy, hg3⟩
      go_wp2_with fail
      go_ret
      exact ⟨rfl, (hg1.trans hg2).trans hg3⟩
  · rcases eb with ⟨i2, c2⟩ | y
    · obtain ⟨e1, e2, e3⟩ := scanV_err hdb
      have c1 : (c2 != 0) = true := by rw [bne_iff_ne]; omega
      clear hda hdb ho e1 e2 e3 hma hmb
      go_enter Tryd.func7, Tryd.ntmps7
      go_wp2_with fail
      refine ha.mono ?_
      rintro e w1 ⟨rfl, hg1⟩
      go_wp2_with fail
      refine (hx _ hg1).mono ?_
      rintro e w2 ⟨sx, vx, rfl, hTx, hg2⟩
      go_wp2_with fail
      refine (hy _ (hg1.trans hg2)).mono ?_
      rintro e w3 ⟨rfl, hg3⟩
      go_wp2_with fail
      go_ret
      exact ⟨rfl, (hg1.trans hg2).trans hg3⟩
    · have ho2 := ho x y rfl rfl
      have l1 := (scanV_at hda).1
      have l2 := (scanV_at hdb).1
      have m1 := scanV_len hda
      have m2 := scanV_len hdb
      have l1I : (a.size : Int) ≤ 16384 := by omega
      have l2I : (b.size : Int) ≤ 16384 := by omega
      have m1I : (x.length : Int) ≤ 4000 := by omega
      have m2I : (y.length : Int) ≤ 4000 := by omega
      have key : (16384 < (a.size : Int) + (b.size : Int) + 1) ∨ ((a.size : Int) + (b.size : Int) + 1 ≤ 16384 ∧ 4000 < (x.length : Int) + (y.length : Int)) := by omega
      clear hda hdb ho ho2 l1 l2 m1 m2 hma hmb
      rcases key with k1 | ⟨k1, k2⟩
      all_goals
        go_enter Tryd.func7, Tryd.ntmps7
        go_wp2_with fail
        refine ha.mono ?_
        rintro e w1 ⟨rfl, hg1⟩
        go_wp2_with fail
        refine (hx _ hg1).mono ?_
        rintro e w2 ⟨sx, vx, rfl, hTx, hg2⟩
        obtain ⟨xa, xc, rfl⟩ := hTx.sv
        go_wp2_with fail
        refine (hy _ (hg1.trans hg2)).mono ?_
        rintro e w3 ⟨sy, vy, rfl, hTy, hg3⟩
        obtain ⟨ya, yc, rfl⟩ := hTy.sv
        go_wp2_with fail
        go_ret
        exact ⟨rfl, (hg1.trans hg2).trans hg3⟩
theorem joins_walk (a b : ByteArray) (W : World) (hma : a.size ≤ maxLen) (hmb : b.size ≤ maxLen) (hE : Er W) (hS : Sg W) (hT : Tb W) :
    Calls Tryd.prog 7 #[.string a, .string b] W fun e w' => e = .returned (.bool true) ∧ Gr (fun _ => False) W w' := by
  have ha := alive_c W hE hS hT
  have hs := fun s w (g : Gr (fun _ => False) W w) => scan_c w s (hE.gr g (fun e => e)) (hS.gr g (fun e => e))
  by_cases ho : ∀ x y, scanV a = .ok x → scanV b = .ok y → 16384 < a.size + b.size + 1 ∨ 4000 < x.length + y.length
  · exact joins_out a b W hma hmb _ _ rfl rfl ho ha (hs a) (hs b)
  · cases hx : scanV a with
    | error p => exact absurd (fun x y h => by rw [hx] at h; cases h) ho
    | ok x =>
    cases hy : scanV b with
    | error p => exact absurd (fun x y _ h => by rw [hy] at h; cases h) ho
    | ok y =>
    have hn : ¬ (16384 < a.size + b.size + 1 ∨ 4000 < x.length + y.length) := fun e => ho (fun x' y' h1 h2 => by rw [hx] at h1; rw [hy] at h2; cases h1; cases h2; exact e)
    have h1 : a.size + b.size + 1 ≤ 16384 := by omega
    have h2 : x.length + y.length ≤ 4000 := by omega
    have ax := scanV_at hx
    have ay := scanV_at hy
    have hj := joined (jo_jn a b) x y hx hy h1 h2
    exact joins_in a b W x y (scanV_len hx) (scanV_len hy) ax.1 ay.1 h1 (fun t ht => (ay.2.1 t ht).1) h2 ha
      (fun w g => by have := hs a w g; rw [hx] at this; exact this) (fun w g => by have := hs b w g; rw [hy] at this; exact this) (fun w g => by have := hs (jo a b) w g; rw [hj] at this; exact this)
end Go.Proofs.YtnojhboflegkdaaDoor
