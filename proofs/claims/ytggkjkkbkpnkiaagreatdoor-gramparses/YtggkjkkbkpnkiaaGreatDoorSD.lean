/-
  Tokens that came in: large.
-/
import Derived.Test.YtggkjkkbkpnkiaaGreatDoorSC
set_option linter.unusedVariables false
set_option linter.unusedSimpArgs false
namespace Go.Proofs.YtggkjkkbkpnkiaaGreatDoor
open Go.RowKit Go.Maps
variable {W W' : World}
/-- The tokens at hand, with their row's place said once. -/
theorem TokK.place {N : Nat} {ts : List Tn} {vs : List Value} {a : Option Addr} (h : TokK N W ts vs a) : ∃ g o, (0 < ts.length → a = some ⟨g, o, none⟩ ∧ g < N) ∧
    ∀ (k : Nat) (t : Tn), ts[k]? = some t → ∃ v, vs[k]? = some v ∧ RowBG (fun z => z < N) W t.b v ∧ ∀ j u, (tnc t v)[j]? = some u → W.cell? ⟨g, o + k * 5 + j, none⟩ = some u := by
  cases ts with
  | nil => exact ⟨0, 0, fun h => absurd h (by decide), fun k t hk => by simp at hk⟩
  | cons t0 ts =>
    obtain ⟨v0, g, o, _, ha, hg, _, _⟩ := h 0 t0 rfl
    refine ⟨g, o, fun _ => ⟨ha, hg⟩, fun k t hk => ?_⟩
    obtain ⟨v, g', o', hv, ha', hg', hb, hc⟩ := h k t hk
    rw [ha] at ha'
    cases ha'
    exact ⟨v, hv, hb, hc⟩
/-- How many bytes the tokens hold. -/
def bsum : List Tn → Nat
  | [] => 0
  | t :: ts => t.b.length + bsum ts
theorem bsum_app : ∀ (x y : List Tn), bsum (x ++ y) = bsum x + bsum y
  | [], y => by rw [List.nil_append, bsum, Nat.zero_add]
  | t :: x, y => by rw [List.cons_append, bsum, bsum, bsum_app x y, Nat.add_assoc]
theorem bsum_take {ts : List Tn} {i : Nat} {t : Tn} (h : ts[i]? = some t) : bsum (ts.take (i + 1)) = bsum (ts.take i) + t.b.length := by
  rw [List.take_add_one, h, bsum_app]
  rfl
theorem bsum_mem {ts : List Tn} {t : Tn} (h : t ∈ ts) : t.b.length ≤ bsum ts := by
  induction ts with
  | nil => cases h
  | cons u ts ih =>
    rw [bsum]
    rcases List.mem_cons.1 h with rfl | h
    · omega
    · have := ih h; omega
theorem bsum_le {M : Nat} : ∀ {ts : List Tn}, (∀ t ∈ ts, t.b.length ≤ M) → bsum ts ≤ ts.length * M
  | [], _ => by simp [bsum]
  | t :: ts, h => by
    have h1 := h t List.mem_cons_self
    have h2 := bsum_le (M := M) (ts := ts) (fun u hu => h u (List.mem_cons_of_mem _ hu))
    rw [bsum, List.length_cons, Nat.add_mul, Nat.one_mul]
    omega
/-- How large ends. -/
def LgE (ts : List Tn) (W : World) (e : Ending) (w' : World) : Prop := ∃ r, e = .returned (.bool r) ∧ (r = false → ts.length ≤ 4500 ∧ bsum ts ≤ 131072) ∧ Gr (fun _ => False) W w'
set_option maxRecDepth 100000 in
set_option maxHeartbeats 1200000 in
theorem toklarge_c {N : Nat} {ts : List Tn} {vs : List Value} {a : Option Addr} {c : Nat} (h : TokK N W ts vs a) (hlen : ts.length ≤ 4611686018427387904) (hB : ∀ t ∈ ts, t.b.length ≤ 140737488351232) :
    Calls Tryz.prog 6 #[.slice a ts.length c] W fun e w' => LgE ts W e w' := by
  obtain ⟨g, o, ha, ht⟩ := h.place
  have Ht := Lib.hid ht
  have hlI : (ts.length : Int) ≤ 4611686018427387904 := by omega
  clear h ht
  by_cases hbig : 4500 < ts.length
  · have hd : decide ((4500 : Int) < (ts.length : Int)) = true := by simp; omega
    clear ha
    go_enter Tryz.func6, Tryz.ntmps6
    go_wp2_with fail
    go_ret
    exact ⟨true, rfl, fun h => (by cases h), Gr.refl _ _⟩
  have hd : decide ((4500 : Int) < (ts.length : Int)) = false := by simp; omega
  have hsm : Hid (ts.length ≤ 4500) := Nat.not_lt.1 hbig
  have Ha := Lib.hid ha
  have HB := Lib.hid hB
  clear hbig ha hB
  go_enter Tryz.func6, Tryz.ntmps6
  go_wp2_with fail
  go_loopw [3, 4] (fun u v wr => ∃ i : Nat, i ≤ ts.length ∧ u = .int .i64 (bsum (ts.take i) : Int) ∧ v = .int .i64 (i : Int) ∧ Hid (Gr (fun _ => False) W wr)) (fun u v _ => ts.length - (intOf v).toNat)
  case atStart => exact ⟨0, Nat.zero_le _, by simp [bsum], rfl, Gr.refl _ _⟩
  case round =>
    obtain ⟨i, hi, rfl, rfl, hG⟩ := hrel
    by_cases hlt : i < ts.length
    · have hdi : decide ((i : Int) < (ts.length : Int)) = true := by simp; omega
      obtain ⟨hxa, hgN⟩ := Ha.out (by omega)
      subst hxa
      obtain ⟨t, hti⟩ : ∃ t, ts[i]? = some t := ⟨_, List.getElem?_eq_getElem hlt⟩
      obtain ⟨v, hv, hb, hc⟩ := Ht.out i t hti
      obtain ⟨ba, bc, rfl⟩ := hb.sv
      have c3 : wr.cell? ⟨g, o + i * 5 + 3, none⟩ = some (.slice ba t.b.length bc) := cell_gr (hc 3 _ rfl) hG.out (fun e => e)
      have hgl : g < wr.heap.size := World.block_lt_of_cell? _ _ c3
      have hst := Lib.hid (bsum_take hti)
      have hbt : t.b.length ≤ 140737488351232 := HB.out t (List.mem_of_getElem? hti)
      have hsum : bsum (ts.take i) ≤ i * 140737488351232 := by
        have h1 := bsum_le (M := 140737488351232) (ts := ts.take i) (fun u hu => HB.out u (List.mem_of_mem_take hu))
        rw [List.length_take] at h1
        refine Nat.le_trans h1 (Nat.mul_le_mul_right _ (Nat.min_le_left _ _))
      have hi4 : i ≤ 4500 := by have := hsm.out; omega
      have hsum2 : bsum (ts.take i) ≤ 633318697580544000 := Nat.le_trans hsum (Nat.le_trans (Nat.mul_le_mul_right _ hi4) (by decide))
      have hsI : (bsum (ts.take i) : Int) ≤ 633318697580544000 := by omega
      have hbI : (t.b.length : Int) ≤ 140737488351232 := by omega
      have hw : IntKind.i64.wrap ((bsum (ts.take i) : Int) + (t.b.length : Int)) = ((bsum (ts.take (i + 1)) : Nat) : Int) := by
        rw [hst.out, IntKind.wrap_i64]
        omega
      clear hv hb hc hti hbt hsum hsum2
      generalize bsum (ts.take i) = s at hsI hw
      generalize hs' : bsum (ts.take (i + 1)) = s' at hw
      replace hs' := Lib.hid hs'
      go_wp2_with fail
      exact ⟨⟨i + 1, hlt, by rw [hs'.out], by go_num, hG⟩, by simp [intOf]; omega⟩
    · have hdi : decide ((i : Int) < (ts.length : Int)) = false := by simp; omega
      obtain rfl : i = ts.length := by omega
      have e : bsum (ts.take ts.length) = bsum ts := by rw [List.take_length]
      rw [e]
      by_cases hs : 131072 < bsum ts
      · have hd2 : decide ((131072 : Int) < (bsum ts : Int)) = true := by simp; omega
        go_wp2_with fail
        go_ret
        exact ⟨true, rfl, fun h => (by cases h), hG.out⟩
      · have hd2 : decide ((131072 : Int) < (bsum ts : Int)) = false := by simp; omega
        have hs2 := Lib.hid (Nat.not_lt.1 hs)
        clear hs
        go_wp2_with fail
        go_ret
        exact ⟨false, rfl, fun _ => ⟨hsm.out, hs2.out⟩, hG.out⟩
end Go.Proofs.YtggkjkkbkpnkiaaGreatDoor
