/-
  Carried over from another seat of ours (KA).
  Carried over from another seat of ours (KB).
  Carried over from another seat of ours (KC).
-/
import Derived.Test.YtmohehfkbhllpaaGreatZ
import Derived.Test.YtmohehfkbhllpaaGreatA
import Derived.Test.YtmohehfkbhllpaaGreatBE
import Derived.Laws.Slices
import Derived.Laws.BitsAllLaws
import Derived.Laws.Externs
set_option linter.unusedVariables false
set_option linter.unusedSimpArgs false
namespace Go.Proofs.YtmohehfkbhllpaaGreat
open Go.RowKit Go.Maps
variable {S S' Z : Nat → Prop} {W W1 W' : World}

/-- What the reader throws. -/
abbrev thr (e : Int) : Ending := .panicked [{ v := .iface 32 (.int .i64 e), recovered := false }]
/-- Bytes in memory, in a block of Z. -/
def Sq (Z : Nat → Prop) (W : World) (v : Value) (m : List Int) : Prop :=
  ∃ a c, v = .slice a m.length c ∧ m.length ≤ c ∧ c ≤ 9223372036854775807 ∧ (∀ x ∈ m, 0 ≤ x ∧ x < 256) ∧ (m ≠ [] → ∃ g o, a = some ⟨g, o, none⟩ ∧ Z g ∧ ∀ j u, m[j]? = some u → W.cell? ⟨g, o + j, none⟩ = some (.int .u8 u))
theorem Sq.gr {v : Value} {m : List Int} (h : Sq Z W v m) (g : Gr S W W') (hs : ∀ k, Z k → ¬ S k) : Sq Z W' v m := by
  obtain ⟨a, c, e, h1, h2, h3, h4⟩ := h
  refine ⟨a, c, e, h1, h2, h3, fun hm => ?_⟩
  obtain ⟨g', o, e1, hz, h5⟩ := h4 hm
  refine ⟨g', o, e1, hz, fun j u hu => ?_⟩
  have := h5 j u hu
  rw [World.cell?_of_block (w' := W') (w := W) (a := ⟨g', o + j, none⟩) (g.block g' (World.block_lt_of_cell? W _ this) (hs g' hz))]
  exact this
theorem Sq.byte {v : Value} {m : List Int} (h : Sq Z W v m) : ∀ x ∈ m, 0 ≤ x ∧ x < 256 := by
  obtain ⟨a, c, e, h1, h2, h3, h4⟩ := h; exact h3
theorem Sq.take {a : Option Addr} {c : Nat} {m : List Int} (h : Sq Z W (.slice a m.length c) m) (k : Nat) (hk : k ≤ m.length) : Sq Z W (.slice a k c) (m.take k) := by
  obtain ⟨a', c', e, h1, h2, h3, h4⟩ := h
  cases e
  refine ⟨a, c, by rw [List.length_take, Nat.min_eq_left hk], by rw [List.length_take]; omega, h2, fun x hx => h3 x (List.mem_of_mem_take hx), fun hm => ?_⟩
  obtain ⟨g, o, e1, hz, h5⟩ := h4 (fun e => by rw [e] at hm; simp at hm)
  refine ⟨g, o, e1, hz, fun j u hu => h5 j u ?_⟩
  rw [List.getElem?_take] at hu
  split at hu
  · exact hu
  · cases hu
theorem Sq.drop {a : Option Addr} {c : Nat} {m : List Int} (h : Sq Z W (.slice a m.length c) m) (k : Nat) (hk : k ≤ m.length) : Sq Z W (.slice (if c = k then a else a.map (·.add k)) (m.length - k) (c - k)) (m.drop k) := by
  obtain ⟨a', c', e, h1, h2, h3, h4⟩ := h
  cases e
  refine ⟨_, c - k, by rw [List.length_drop], by rw [List.length_drop]; omega, by omega, fun x hx => h3 x (List.mem_of_mem_drop hx), fun hm => ?_⟩
  have hlt : k < m.length := by
    rcases Nat.lt_or_ge k m.length with h | h
    · exact h
    · rw [List.drop_eq_nil_of_le h] at hm; exact absurd rfl hm
  obtain ⟨g, o, e1, hz, h5⟩ := h4 (fun e => by rw [e] at hlt; simp at hlt)
  refine ⟨g, o + k, ?_, hz, fun j u hu => ?_⟩
  · rw [if_neg (by omega), e1]; simp [Addr.add]
  · rw [List.getElem?_drop] at hu
    rw [Nat.add_assoc]
    exact h5 (k + j) u hu
/-- The reader at b: what is left, the size so far, the table at tb. -/
def Re (Z : Nat → Prop) (W : World) (b : Nat) (m : List Int) (n : Nat) (tb : Nat) : Prop := ∃ lv, W.heap[b]? = some (.cells #[lv, .int .i64 (n : Int), pt tb] 47 (0, 0)) ∧ Sq Z W lv m ∧ ¬ Z b
theorem Re.lt {b n tb : Nat} {m : List Int} (h : Re Z W b m n tb) : b < W.heap.size := by
  obtain ⟨lv, h1, _⟩ := h; exact (Array.getElem?_eq_some_iff.1 h1).1
theorem Re.gr {b n tb : Nat} {m : List Int} (h : Re Z W b m n tb) (g : Gr S W W') (hs : ∀ k, Z k → ¬ S k) (hb : ¬ S b) : Re Z W' b m n tb := by
  obtain ⟨lv, h1, h2, h3⟩ := h
  exact ⟨lv, g.keep h1 hb, h2.gr g hs, h3⟩
theorem Re.byte {b n tb : Nat} {m : List Int} (h : Re Z W b m n tb) : ∀ x ∈ m, 0 ≤ x ∧ x < 256 := by
  obtain ⟨lv, h1, h2, h3⟩ := h; exact h2.byte
/-- Only the reader has turned: it is there now. -/
def Sr (Z : Nat → Prop) (W : World) (b : Nat) (w' : World) (m : List Int) (n tb : Nat) : Prop := Re Z w' b m n tb ∧ Gr (fun k => k = b) W w'
theorem Sr.trans {b n n' tb : Nat} {m m' : List Int} {w w' : World} (h : Sr Z W b w m n tb) (k : Sr Z w b w' m' n' tb) : Sr Z W b w' m' n' tb := ⟨k.1, h.2.trans k.2⟩
theorem three46 {g : Nat} {x y z : Value} (h : W.heap[g]? = some (.cells #[x, y, z] 47 (0, 0))) :
    W.cell? ⟨g, 0, none⟩ = some x ∧ W.cell? ⟨g, 1, none⟩ = some y ∧ W.cell? ⟨g, 2, none⟩ = some z ∧ W.frozen? ⟨g, 0, none⟩ = false ∧ W.frozen? ⟨g, 1, none⟩ = false := by
  simp [World.cell?, World.frozen?, h]
theorem Re.set0 {b n tb : Nat} {lv : Value} (h : W.heap[b]? = some (.cells #[lv, .int .i64 (n : Int), pt tb] 47 (0, 0))) (u : Value) : (W.setCell ⟨b, 0, none⟩ u).heap[b]? = some (.cells #[u, .int .i64 (n : Int), pt tb] 47 (0, 0)) :=
  heap_setCell_same W b 0 _ 47 _ h
theorem Re.set1 {b n tb : Nat} {lv : Value} (h : W.heap[b]? = some (.cells #[lv, .int .i64 (n : Int), pt tb] 47 (0, 0))) (u : Value) : (W.setCell ⟨b, 1, none⟩ u).heap[b]? = some (.cells #[lv, u, pt tb] 47 (0, 0)) :=
  heap_setCell_same W b 1 _ 47 _ h

set_option maxRecDepth 20000 in
set_option maxHeartbeats 800000 in
theorem take_no (W : World) (b n tb : Nat) (m : List Int) (k : Int) (h : Re Z W b m n tb) (hk : (m.length : Int) < k) : Calls Tryz.prog 48 #[pt b, .int .i64 k] W fun e w' => e = thr 72 ∧ Gr (fun i => i = b) W w' := by
  obtain ⟨lv, hB, hq, hz⟩ := h
  obtain ⟨c0, c1, c2, f0, f1⟩ := three46 hB
  obtain ⟨a, c, rfl, -⟩ := hq
  go_enter Tryz.func48, Tryz.ntmps48
  go_wp2
  exact ⟨rfl, rfl, Gr.refl _ _⟩
set_option maxRecDepth 20000 in
set_option maxHeartbeats 800000 in
theorem take_ok (W : World) (b n tb : Nat) (m : List Int) (k : Nat) (h : Re Z W b m n tb) (hk : k ≤ m.length) : Calls Tryz.prog 48 #[pt b, .int .i64 (k : Int)] W fun e w' => ∃ v, e = .returned v ∧ Sq Z w' v (m.take k) ∧ Sr Z W b w' (m.drop k) n tb := by
  obtain ⟨lv, hB, hq, hz⟩ := h
  obtain ⟨c0, c1, c2, f0, f1⟩ := three46 hB
  have hq0 := hq
  obtain ⟨a, c, rfl, hc, hc2, -, -⟩ := hq
  have hkI : (k : Int) ≤ (m.length : Int) := by omega
  have hkc : (k : Int) ≤ (c : Int) := by omega
  have hb := (Array.getElem?_eq_some_iff.1 hB).1
  have hd := hq0.drop k hk
  have ht := hq0.take k hk
  have g : ∀ u, Gr (fun i => i = b) W (W.setCell ⟨b, 0, none⟩ u) := fun u => Gr.set (S := fun i => i = b) W ⟨b, 0, none⟩ _ rfl
  by_cases hck : c = k
  · subst hck
    rw [if_pos rfl, Nat.sub_self, show m.length - c = 0 by omega] at hd
    go_enter Tryz.func48, Tryz.ntmps48
    go_wp2
    go_ret
    exact ⟨_, rfl, ht.gr (g _) (fun i hi e => hz (e ▸ hi)), ⟨_, Re.set0 hB _, hd.gr (g _) (fun i hi e => hz (e ▸ hi)), hz⟩, g _⟩
  · rw [if_neg hck] at hd
    go_enter Tryz.func48, Tryz.ntmps48
    go_wp2
    go_ret
    exact ⟨_, rfl, ht.gr (g _) (fun i hi e => hz (e ▸ hi)), ⟨_, Re.set0 hB _, hd.gr (g _) (fun i hi e => hz (e ▸ hi)), hz⟩, g _⟩
set_option maxRecDepth 20000 in
set_option maxHeartbeats 800000 in
theorem one_no (W : World) (b n tb : Nat) (h : Re Z W b [] n tb) : Calls Tryz.prog 23 #[pt b] W fun e w' => e = thr 72 ∧ Gr (fun i => i = b) W w' := by
  have ht := take_no W b n tb [] 1 h (by decide)
  go_enter Tryz.func23, Tryz.ntmps23
  go_wp2_with fail
  refine ht.mono ?_
  rintro e w' ⟨rfl, hg⟩
  exact ⟨rfl, rfl, hg⟩
set_option maxRecDepth 20000 in
set_option maxHeartbeats 800000 in
theorem one_ok (W : World) (b n tb : Nat) (c : Int) (m : List Int) (h : Re Z W b (c :: m) n tb) : Calls Tryz.prog 23 #[pt b] W fun e w' => e = .returned (.int .u8 c) ∧ Sr Z W b w' m n tb := by
  have ht := take_ok W b n tb (c :: m) 1 h (by simp)
  go_enter Tryz.func23, Tryz.ntmps23
  go_wp2_with fail
  refine ht.mono ?_
  rintro e w' ⟨v, rfl, hq, hs⟩
  obtain ⟨a, c', rfl, h1, h2, h3, h4⟩ := hq
  obtain ⟨g, o, rfl, hz, h5⟩ := h4 (by simp)
  have hc := h5 0 c (by simp)
  simp only [List.take_succ_cons, List.take_zero, List.length_cons, List.length_nil] at *
  rw [Nat.add_zero] at hc
  go_wp2_with fail
  go_ret
  exact ⟨rfl, hs⟩
set_option maxRecDepth 20000 in
set_option maxHeartbeats 800000 in
theorem begin_deep (W : World) (b : Nat) (d : Int) (hd : 24 < d) : Calls Tryz.prog 22 #[pt b, .int .i64 d] W fun e w' => e = thr 20 ∧ Gr (fun i => i = b) W w' := by
  go_enter Tryz.func22, Tryz.ntmps22
  go_wp2
  exact ⟨rfl, rfl, Gr.refl _ _⟩
set_option maxRecDepth 20000 in
set_option maxHeartbeats 800000 in
theorem begin_size (W : World) (b n tb : Nat) (m : List Int) (d : Int) (hd : d ≤ 24) (h : Re Z W b m n tb) (hn : n = 4096) : Calls Tryz.prog 22 #[pt b, .int .i64 d] W fun e w' => e = thr 21 ∧ Gr (fun i => i = b) W w' := by
  obtain ⟨lv, hB, hq, hz⟩ := h
  obtain ⟨c0, c1, c2, f0, f1⟩ := three46 hB
  have hd' : ¬ 24 < d := by omega
  subst hn
  have hb := (Array.getElem?_eq_some_iff.1 hB).1
  clear hd
  go_enter Tryz.func22, Tryz.ntmps22
  go_wp2
  exact ⟨rfl, rfl, Gr.set (S := fun i => i = b) W ⟨b, 1, none⟩ _ rfl⟩
set_option maxRecDepth 20000 in
set_option maxHeartbeats 800000 in
theorem begin_ok (W : World) (b n tb : Nat) (m : List Int) (d : Int) (hd : d ≤ 24) (h : Re Z W b m n tb) (hn : n < 4096) : Calls Tryz.prog 22 #[pt b, .int .i64 d] W fun e w' => e = .returned (.tuple #[]) ∧ Sr Z W b w' m (n + 1) tb := by
  obtain ⟨lv, hB, hq, hz⟩ := h
  obtain ⟨c0, c1, c2, f0, f1⟩ := three46 hB
  have hd' : ¬ 24 < d := by omega
  have hnI : (n : Int) < 4096 := by omega
  have hn0 : (0 : Int) ≤ (n : Int) := by omega
  have hb := (Array.getElem?_eq_some_iff.1 hB).1
  clear hd hn
  go_enter Tryz.func22, Tryz.ntmps22
  go_wp2
  go_end0
  have g : Gr (fun i => i = b) W (W.setCell ⟨b, 1, none⟩ (.int .i64 ((n + 1 : Nat) : Int))) := Gr.set (S := fun i => i = b) W ⟨b, 1, none⟩ _ rfl
  exact ⟨rfl, ⟨lv, Re.set1 hB _, hq.gr g (fun i hi e => hz (e ▸ hi)), hz⟩, g⟩
/-- The int that a number is folded. -/
def unf (u : Int) : Int := if u % 2 = 1 then -(u / 2) - 1 else u / 2
end Go.Proofs.YtmohehfkbhllpaaGreat


namespace Go.Proofs.YtmohehfkbhllpaaGreat
open Go.RowKit Go.Maps
variable {S S' Z : Nat → Prop} {W W1 W' : World}

/-- A number's bytes from its byte k on, behind what the others make; f more at most. -/
def nmb : Nat → Nat → Nat → List Int → Except Int (Nat × List Int)
  | 0, _, a, m => .ok (a, m)
  | _ + 1, _, _, [] => .error 72
  | f + 1, k, a, c :: r => if (k = 9 ∧ 1 < c) ∨ (0 < k ∧ c = 0) then .error 73 else if c < 128 then .ok (a + c.toNat % 128 * 2 ^ (7 * k), r) else nmb f (k + 1) (a + c.toNat % 128 * 2 ^ (7 * k)) r
/-- How reading a number ends. -/
def EndN (Z : Nat → Prop) (W : World) (b n tb : Nat) (e : Ending) (w' : World) : Except Int (Nat × List Int) → Prop
  | .ok (u, m) => e = .returned (.int .u64 (u : Int)) ∧ Sr Z W b w' m n tb ∧ u < 18446744073709551616
  | .error c => e = thr c ∧ Gr (fun k => k = b) W w'
set_option maxRecDepth 20000 in
theorem and127 (c : Nat) (hc : c < 256) : bits .and .u8 (c : Int) 127 = ((c % 128 : Nat) : Int) := by
  have : ∀ c : Fin 256, bits .and .u8 ((c.val : Nat) : Int) 127 = ((c.val % 128 : Nat) : Int) := by decide
  exact this ⟨c, hc⟩
set_option maxRecDepth 20000 in
theorem and128 (c : Nat) (hc : c < 256) : bits .and .u8 (c : Int) 128 = if c < 128 then 0 else 128 := by
  have : ∀ c : Fin 256, bits .and .u8 ((c.val : Nat) : Int) 128 = if c.val < 128 then 0 else 128 := by decide
  exact this ⟨c, hc⟩
theorem orv7 (a c k : Nat) (ha : a < 2 ^ (7 * k)) (hk : k < 10) (hc : c < 256) (h9 : k = 9 → c ≤ 1) :
    bits .or .u64 (a : Int) (IntKind.u64.wrap (IntKind.u64.wrap (bits .and .u8 (c : Int) 127) * 2 ^ (7 * k))) = ((a + c % 128 * 2 ^ (7 * k) : Nat) : Int) ∧ a + c % 128 * 2 ^ (7 * k) < 18446744073709551616 ∧ (k < 9 → a + c % 128 * 2 ^ (7 * k) < 2 ^ (7 * (k + 1))) := by
  have hx : c % 128 * 2 ^ (7 * k) < 18446744073709551616 ∧ a + c % 128 * 2 ^ (7 * k) < 18446744073709551616 ∧ (k < 9 → a + c % 128 * 2 ^ (7 * k) < 2 ^ (7 * (k + 1))) := by
    have hp : 2 ^ (7 * (k + 1)) = 2 ^ (7 * k) * 128 := by rw [show 7 * (k + 1) = 7 * k + 7 by omega, Nat.pow_add]
    have h1 : c % 128 * 2 ^ (7 * k) ≤ 127 * 2 ^ (7 * k) := Nat.mul_le_mul_right _ (by omega)
    by_cases hk9 : k = 9
    · have := h9 hk9
      subst hk9
      have h2 : c % 128 * 2 ^ (7 * 9) ≤ 1 * 2 ^ (7 * 9) := Nat.mul_le_mul_right _ (by omega)
      refine ⟨by omega, by omega, fun h => by omega⟩
    · have h3 : 2 ^ (7 * k) ≤ 2 ^ (7 * 8) := Nat.pow_le_pow_right (by decide) (by omega)
      refine ⟨by omega, by omega, fun _ => by rw [hp]; omega⟩
  refine ⟨?_, hx.2.1, hx.2.2⟩
  have h1 : IntKind.u64.wrap ((c % 128 : Nat) : Int) = ((c % 128 : Nat) : Int) := by rw [IntKind.wrap_u64]; omega
  have h2 : ((c % 128 : Nat) : Int) * 2 ^ (7 * k) = ((c % 128 * 2 ^ (7 * k) : Nat) : Int) := by simp
  have h3 : IntKind.u64.wrap ((c % 128 * 2 ^ (7 * k) : Nat) : Int) = ((c % 128 * 2 ^ (7 * k) : Nat) : Int) := by rw [IntKind.wrap_u64]; omega
  rw [and127 c hc, h1, h2, h3]
  have e : 2 ^ (7 * k) * (c % 128) + a = 2 ^ (7 * k) * (c % 128) ||| a := Nat.two_pow_add_eq_or_of_lt ha (c % 128)
  have e1 : (BitVec.ofInt 64 (a : Int) ||| BitVec.ofInt 64 ((c % 128 * 2 ^ (7 * k) : Nat) : Int)).toNat = a + c % 128 * 2 ^ (7 * k) := by
    rw [BitVec.ofInt_natCast, BitVec.ofInt_natCast, BitVec.toNat_or, BitVec.toNat_ofNat, BitVec.toNat_ofNat, Nat.mod_eq_of_lt (show a < 2 ^ 64 by omega), Nat.mod_eq_of_lt (show c % 128 * 2 ^ (7 * k) < 2 ^ 64 by omega), Nat.or_comm, Nat.mul_comm (c % 128), ← e, Nat.add_comm]
  show IntKind.u64.wrap ((BitVec.ofInt 64 (a : Int) ||| BitVec.ofInt 64 ((c % 128 * 2 ^ (7 * k) : Nat) : Int)).toNat : Int) = _
  rw [e1, IntKind.wrap_u64]
  omega
set_option maxRecDepth 20000 in
set_option maxHeartbeats 1600000 in
theorem number_c (W : World) (b n tb : Nat) (m : List Int) (h : Re Z W b m n tb) : Calls Tryz.prog 25 #[pt b] W fun e w' => EndN Z W b n tb e w' (nmb 10 0 0 m) := by
  obtain ⟨r, hr⟩ : ∃ r, nmb 10 0 0 m = r := ⟨_, rfl⟩
  rw [hr]
  have Hr := Lib.hid hr
  clear hr
  go_enter Tryz.func25, Tryz.ntmps25
  go_wp2_with fail
  go_loopw [3, 6] (fun u v wr => ∃ (k a : Nat) (m' : List Int), k < 10 ∧ u = .int .u64 (a : Int) ∧ v = .int .i64 (k : Int) ∧ Hid (a < 2 ^ (7 * k)) ∧ Hid (r = nmb (10 - k) k a m') ∧ Sr Z W b wr m' n tb) (fun _ v _ => 10 - (intOf v).toNat)
  case atStart => exact ⟨0, 0, m, by omega, rfl, rfl, (by show 0 < 2 ^ 0; decide), Hr.out.symm, h, Gr.refl _ _⟩
  case round =>
    obtain ⟨k, a, m', hk, rfl, rfl, Ha, Hm, hs⟩ := hrel
    obtain ⟨f, hf⟩ : ∃ f, 10 - k = f + 1 := ⟨9 - k, by omega⟩
    rw [hf] at Hm
    have hkI : (k : Int) < 10 := by omega
    cases m' with
    | nil =>
      have e : r = .error 72 := Hm.out
      subst e
      go_wp2_with fail
      refine (one_no wr b n tb hs.1).mono ?_
      rintro e w' ⟨rfl, hg⟩
      exact ⟨rfl, rfl, hs.2.trans hg⟩
    | cons c m' =>
      have hcb := hs.1.byte c (List.mem_cons_self ..)
      obtain ⟨c, rfl⟩ := Int.eq_ofNat_of_zero_le hcb.1
      have hc : c < 256 := by omega
      have hone := fun m' h => one_ok (Z := Z) wr b n tb c m' h
      by_cases hbad : (k = 9 ∧ (1 : Int) < c) ∨ (0 < k ∧ (c : Int) = 0)
      · have e : r = .error 73 := by rw [Hm.out, nmb, if_pos hbad]
        subst e
        clear Hm
        rcases hbad with ⟨rfl, h1⟩ | ⟨h0, hc0⟩
        · go_wp2_with fail
          refine (hone m' hs.1).mono ?_
          rintro e' w' ⟨rfl, hs'⟩
          go_wp2_with fail
          exact ⟨rfl, rfl, hs.2.trans hs'.2⟩
        · obtain rfl : c = 0 := by omega
          have h0I : (0 : Int) < (k : Int) := by omega
          by_cases hk9 : k = 9
          · subst hk9
            go_wp2_with fail
            refine (hone m' hs.1).mono ?_
            rintro e' w' ⟨rfl, hs'⟩
            go_wp2_with fail
            exact ⟨rfl, rfl, hs.2.trans hs'.2⟩
          · have hk9I : ¬ (k : Int) = 9 := by omega
            go_wp2_with fail
            refine (hone m' hs.1).mono ?_
            rintro e' w' ⟨rfl, hs'⟩
            go_wp2_with fail
            exact ⟨rfl, rfl, hs.2.trans hs'.2⟩
      · obtain ⟨hv, hv2, hv3⟩ := orv7 a c k Ha.out hk hc (fun e => by omega)
        by_cases h128 : (c : Int) < 128
        · have e : r = .ok (a + c % 128 * 2 ^ (7 * k), m') := by rw [Hm.out, nmb, if_neg hbad, if_pos h128]; rfl
          subst e
          have hz := and128 c hc
          rw [if_pos (by omega)] at hz
          have hz' : (bits .and .u8 (c : Int) 128 == 0) = true := by rw [hz]; rfl
          clear Hm hz
          have hfin : ∀ w', Sr Z wr b w' m' n tb → EndN Z W b n tb (.returned (.int .u64 (bits .or .u64 (a : Int) (IntKind.u64.wrap (IntKind.u64.wrap (bits .and .u8 (c : Int) 127) * 2 ^ (7 * k)))))) w' (.ok (a + c % 128 * 2 ^ (7 * k), m')) := fun w' h => by
            rw [hv]; exact ⟨rfl, hs.trans h, hv2⟩
          replace hfin := Lib.hid hfin
          clear hv hv2 hv3
          by_cases hk0 : 0 < k
          · have hk0I : (0 : Int) < (k : Int) := by omega
            have hc0 : ((c : Int) == 0) = false := by simp; omega
            by_cases hk9 : k = 9
            · subst hk9
              have hc1 : ¬ (1 : Int) < (c : Int) := by omega
              have h63 : (2 : Int) ^ (7 * 9) = 9223372036854775808 := by decide
              rw [h63] at hfin
              clear hbad h63
              go_wp2_with fail
              refine (hone m' hs.1).mono ?_
              rintro e' w' ⟨rfl, hs'⟩
              go_wp2_with fail
              go_ret
              exact hfin.out w' hs'
            · have hk9I : ¬ (k : Int) = 9 := by omega
              clear hbad
              go_wp2_with fail
              refine (hone m' hs.1).mono ?_
              rintro e' w' ⟨rfl, hs'⟩
              go_wp2_with fail
              go_ret
              exact hfin.out w' hs'
          · have hk0I : ¬ (0 : Int) < (k : Int) := by omega
            have hk9I : ¬ (k : Int) = 9 := by omega
            clear hbad
            go_wp2_with fail
            refine (hone m' hs.1).mono ?_
            rintro e' w' ⟨rfl, hs'⟩
            go_wp2_with fail
            go_ret
            exact hfin.out w' hs'
        · have hk8 : k < 9 := by omega
          have e : r = nmb f (k + 1) (a + c % 128 * 2 ^ (7 * k)) m' := by rw [Hm.out, nmb, if_neg hbad, if_neg h128]; rfl
          have hz := and128 c hc
          rw [if_neg (by omega)] at hz
          have hz' : (bits .and .u8 (c : Int) 128 == 0) = false := by rw [hz]; rfl
          have hf2 : 10 - (k + 1) = f := by omega
          have hkI9 : ¬ (k : Int) = 9 := by omega
          have hc0 : ((c : Int) == 0) = false := by simp; omega
          rw [← hf2] at e
          have hfin : ∀ w', Sr Z wr b w' m' n tb → ∃ (k' a' : Nat) (m2 : List Int), k' < 10 ∧ Value.int .u64 (bits .or .u64 (a : Int) (IntKind.u64.wrap (IntKind.u64.wrap (bits .and .u8 (c : Int) 127) * 2 ^ (7 * k)))) = .int .u64 (a' : Int) ∧ Value.int .i64 ((k : Int) + 1) = .int .i64 (k' : Int) ∧ Hid (a' < 2 ^ (7 * k')) ∧ Hid (r = nmb (10 - k') k' a' m2) ∧ Sr Z W b w' m2 n tb := fun w' h =>
            ⟨k + 1, a + c % 128 * 2 ^ (7 * k), m', by omega, by rw [hv], by congr 1, Lib.hid (hv3 hk8), Lib.hid e, hs.trans h⟩
          replace hfin := Lib.hid hfin
          clear Hm hz hv hv2 hv3 hbad e hf2
          go_wp2_with fail
          refine (hone m' hs.1).mono ?_
          rintro e' w' ⟨rfl, hs'⟩
          go_wp2_with fail
          all_goals exact ⟨hfin.out w' hs', by simp [intOf]; omega⟩
theorem and1 (m : Nat) (hm : m < 18446744073709551616) : bits .and .u64 (m : Int) 1 = ((m % 2 : Nat) : Int) := by
  have e1 : (BitVec.ofInt 64 (m : Int) &&& BitVec.ofInt 64 1).toNat = m % 2 := by
    rw [show (1 : Int) = ((1 : Nat) : Int) from rfl, BitVec.ofInt_natCast, BitVec.ofInt_natCast, BitVec.toNat_and, BitVec.toNat_ofNat, BitVec.toNat_ofNat, Nat.mod_eq_of_lt (by omega), Nat.mod_eq_of_lt (by decide)]
    exact Nat.and_two_pow_sub_one_eq_mod m 1
  show IntKind.u64.wrap ((BitVec.ofInt 64 (m : Int) &&& BitVec.ofInt 64 1).toNat : Int) = _
  rw [e1, IntKind.wrap_u64]
  omega
set_option maxRecDepth 20000 in
set_option maxHeartbeats 400000 in
theorem unfolded_c (u : Nat) (hu : u < 18446744073709551616) (W : World) : Calls Tryz.prog 24 #[.int .u64 (u : Int)] W fun e w' => e = .returned (.int .i64 (unf (u : Int))) ∧ W = w' := by
  have ha := and1 u hu
  by_cases h2 : u % 2 = 1
  · have hb : (bits .and .u64 (u : Int) 1 == 1) = true := by rw [ha, h2]; rfl
    have e : unf (u : Int) = -((u : Int) / 2) - 1 := by unfold unf; rw [if_pos (by omega)]
    rw [e]
    clear ha
    go_enter Tryz.func24, Tryz.ntmps24
    go_wp2
    go_ret
    exact ⟨rfl, rfl⟩
  · have hb : (bits .and .u64 (u : Int) 1 == 1) = false := by rw [ha, show u % 2 = 0 by omega]; rfl
    have e : unf (u : Int) = (u : Int) / 2 := by unfold unf; rw [if_neg (by omega)]
    rw [e]
    clear ha
    go_enter Tryz.func24, Tryz.ntmps24
    go_wp2
    go_ret
    exact ⟨rfl, rfl⟩
end Go.Proofs.YtmohehfkbhllpaaGreat


namespace Go.Proofs.YtmohehfkbhllpaaGreat
open Go.RowKit Go.Maps
variable {S S' Z : Nat → Prop} {W W1 W' : World}

/-- The number that bytes make, the highest first. -/
def be (l : List Int) : Nat := l.foldl (fun a c => a * 256 + c.toNat) 0
theorem be_snoc (l : List Int) (c : Int) : be (l ++ [c]) = be l * 256 + c.toNat := by simp [be, List.foldl_append]
theorem be_lt (l : List Int) (h : ∀ x ∈ l, 0 ≤ x ∧ x < 256) : be l < 256 ^ l.length := by
  have key : ∀ n (l : List Int), l.length = n → (∀ x ∈ l, 0 ≤ x ∧ x < 256) → be l < 256 ^ l.length := by
    intro n
    induction n with
    | zero => intro l hl h; rw [List.eq_nil_of_length_eq_zero hl]; decide
    | succ n ih =>
      intro l hl h
      obtain ⟨l', c, rfl⟩ : ∃ l' c, l = l' ++ [c] := ⟨l.dropLast, l.getLast (fun e => by rw [e] at hl; simp at hl), (List.dropLast_concat_getLast _).symm⟩
      have hc := h c (by simp)
      have h1 := ih l' (by simpa using hl) (fun x hx => h x (by simp [hx]))
      rw [be_snoc, List.length_append, List.length_singleton, Nat.pow_succ]
      omega
  exact key _ l rfl h
theorem or8 (a c : Nat) (ha : a < 72057594037927936) (hc : c < 256) : bits .or .u64 ((a : Int) * 256) (c : Int) = ((a * 256 + c : Nat) : Int) := by
  have e : 2 ^ 8 * a + c = 2 ^ 8 * a ||| c := Nat.two_pow_add_eq_or_of_lt hc a
  have e1 : (BitVec.ofInt 64 ((a : Int) * 256) ||| BitVec.ofInt 64 (c : Int)).toNat = a * 256 + c := by
    have : ((a : Int) * 256) = ((a * 256 : Nat) : Int) := by omega
    rw [this, BitVec.ofInt_natCast, BitVec.ofInt_natCast, BitVec.toNat_or, BitVec.toNat_ofNat, BitVec.toNat_ofNat, Nat.mod_eq_of_lt (by omega), Nat.mod_eq_of_lt (by omega), Nat.mul_comm a 256]
    rw [show (256 : Nat) * a = 2 ^ 8 * a from rfl, ← e]
  show IntKind.u64.wrap ((BitVec.ofInt 64 ((a : Int) * 256) ||| BitVec.ofInt 64 (c : Int)).toNat : Int) = _
  rw [e1, IntKind.wrap_u64]
  omega
/-- How reading a float's bits ends. -/
def EndB (Z : Nat → Prop) (W : World) (b n tb : Nat) (m : List Int) (e : Ending) (w' : World) : Prop :=
  if m.length < 8 then e = thr 72 ∧ Gr (fun k => k = b) W w' else e = .returned (.float .f64 (be (m.take 8))) ∧ Sr Z W b w' (m.drop 8) n tb
set_option maxRecDepth 20000 in
set_option maxHeartbeats 1600000 in
theorem bits_c (W : World) (b n tb : Nat) (m : List Int) (h : Re Z W b m n tb) : Calls Tryz.prog 49 #[pt b] W fun e w' => EndB Z W b n tb m e w' := by
  by_cases h8 : m.length < 8
  · simp only [EndB, if_pos h8]
    go_enter Tryz.func49, Tryz.ntmps49
    go_wp2_with fail
    refine (take_no W b n tb m 8 h (by omega)).mono ?_
    rintro e w' ⟨rfl, hg⟩
    exact ⟨rfl, rfl, hg⟩
  · simp only [EndB, if_neg h8]
    have ht := take_ok W b n tb m 8 h (by omega)
    have hl8 : (m.take 8).length = 8 := by rw [List.length_take]; omega
    generalize m.take 8 = l at ht hl8 ⊢
    go_enter Tryz.func49, Tryz.ntmps49
    go_wp2_with fail
    refine ht.mono ?_
    rintro e w1 ⟨v, rfl, hq, hs⟩
    have hby := hq.byte
    obtain ⟨a, c, rfl, hc1, hc2, -, hcell⟩ := hq
    obtain ⟨g, o, rfl, hzg, hcl⟩ := hcell (fun e => by rw [e] at hl8; simp at hl8)
    rw [hl8]
    clear hc1 hc2 ht h8 hcell
    replace hcl := Lib.hid hcl
    go_wp2_with fail
    go_loopw [3, 9] (fun u v wr => ∃ k : Nat, k ≤ 8 ∧ u = .int .u64 ((be (l.take k) : Nat) : Int) ∧ v = .int .i64 (k : Int) ∧ wr = w1) (fun _ v _ => 8 - (intOf v).toNat)
    case atStart => exact ⟨0, by omega, rfl, rfl, rfl⟩
    case round =>
      obtain ⟨k, hk, rfl, rfl, rfl⟩ := hrel
      have hkI : (k : Int) ≤ 8 := by omega
      by_cases hlt : k < 8
      · obtain ⟨x, hx⟩ : ∃ x, l[k]? = some x := ⟨_, List.getElem?_eq_getElem (by omega)⟩
        have hb := hby x (List.mem_of_getElem? hx)
        have hcx := hcl.out k x hx
        obtain ⟨x, rfl⟩ := Int.eq_ofNat_of_zero_le hb.1
        have hlt2 : (k : Int) < 8 := by omega
        have hsn : be (l.take (k + 1)) = be (l.take k) * 256 + x := by rw [List.take_add_one, hx]; exact be_snoc _ _
        have hbl : be (l.take k) < 72057594037927936 := by
          have := be_lt (l.take k) (fun x hx => hby x (List.mem_of_mem_take hx))
          have h2 : 256 ^ (l.take k).length ≤ 256 ^ 7 := Nat.pow_le_pow_right (by decide) (by rw [List.length_take]; omega)
          omega
        have ho := or8 _ x hbl (by omega)
        rw [← hsn] at ho
        have hwx : IntKind.u64.wrap (x : Int) = (x : Int) := by rw [IntKind.wrap_u64]; omega
        rw [← hwx] at ho
        obtain ⟨A', hA'⟩ : ∃ A', be (l.take (k + 1)) = A' := ⟨_, rfl⟩
        obtain ⟨A, hAA⟩ : ∃ A, be (l.take k) = A := ⟨_, rfl⟩
        rw [hA', hAA] at ho
        rw [hAA] at hbl
        rw [hAA]
        have hA : (A : Int) < 72057594037927936 := by omega
        replace hA' := Lib.hid hA'
        clear hx hb hwx hsn hAA hbl
        go_wp2_with fail
        exact ⟨⟨k + 1, by omega, by rw [hA'.out], by congr 1, trivial⟩, by simp [intOf]; omega⟩
      · obtain rfl : k = 8 := by omega
        rw [List.take_of_length_le (by omega)]
        go_wp2_with fail
        go_ret
        exact ⟨rfl, hs⟩

/-- How reading a complex number ends. -/
def EndX (Z : Nat → Prop) (W : World) (b n tb : Nat) (m : List Int) (e : Ending) (w' : World) : Prop :=
  if m.length < 16 then e = thr 72 ∧ Gr (fun k => k = b) W w' else e = .returned (.complex .f64 (be (m.take 8)) (be ((m.drop 8).take 8))) ∧ Sr Z W b w' (m.drop 16) n tb
set_option maxRecDepth 20000 in
set_option maxHeartbeats 800000 in
theorem cx_c (W : World) (b n tb : Nat) (m : List Int) (h : Re Z W b m n tb) : Calls Tryz.prog 26 #[pt b] W fun e w' => EndX Z W b n tb m e w' := by
  have h1 := bits_c W b n tb m h
  have h2 := fun w h => bits_c (Z := Z) w b n tb (m.drop 8) h
  by_cases h16 : m.length < 16
  · simp only [EndX, if_pos h16]
    by_cases h8 : m.length < 8
    · simp only [EndB, if_pos h8] at h1
      go_enter Tryz.func26, Tryz.ntmps26
      go_wp2_with fail
      refine h1.mono ?_
      rintro e w' ⟨rfl, hg⟩
      exact ⟨rfl, rfl, hg⟩
    · simp only [EndB, if_neg h8] at h1
      have h8' : (m.drop 8).length < 8 := by rw [List.length_drop]; omega
      simp only [EndB, if_pos h8'] at h2
      go_enter Tryz.func26, Tryz.ntmps26
      go_wp2_with fail
      refine h1.mono ?_
      rintro e w1 ⟨rfl, hs⟩
      go_wp2_with fail
      refine (h2 w1 hs.1).mono ?_
      rintro e w2 ⟨rfl, hg⟩
      exact ⟨rfl, rfl, hs.2.trans hg⟩
  · simp only [EndX, if_neg h16]
    simp only [EndB, if_neg (show ¬ m.length < 8 by omega)] at h1
    have h8' : ¬ (m.drop 8).length < 8 := by rw [List.length_drop]; omega
    simp only [EndB, if_neg h8', List.drop_drop] at h2
    go_enter Tryz.func26, Tryz.ntmps26
    go_wp2_with fail
    refine h1.mono ?_
    rintro e w1 ⟨rfl, hs⟩
    go_wp2_with fail
    refine (h2 w1 hs.1).mono ?_
    rintro e w2 ⟨rfl, hs2⟩
    go_wp2_with fail
    go_ret
    exact ⟨rfl, hs.trans hs2⟩
/-- How reading a count of elements ends. -/
def EndK (Z : Nat → Prop) (W : World) (b n tb : Nat) (e : Ending) (w' : World) : Except Int (Nat × List Int) → Prop
  | .ok (u, m) => if 256 < u then e = thr 73 ∧ Gr (fun k => k = b) W w' else e = .returned (.int .i64 (u : Int)) ∧ Sr Z W b w' m n tb
  | .error c => e = thr c ∧ Gr (fun k => k = b) W w'
set_option maxRecDepth 20000 in
set_option maxHeartbeats 800000 in
theorem elements_c (W : World) (b n tb : Nat) (m : List Int) (h : Re Z W b m n tb) : Calls Tryz.prog 29 #[pt b] W fun e w' => EndK Z W b n tb e w' (nmb 10 0 0 m) := by
  have h1 := number_c W b n tb m h
  cases hr : nmb 10 0 0 m with
  | error c =>
    rw [hr] at h1
    go_enter Tryz.func29, Tryz.ntmps29
    go_wp2_with fail
    refine h1.mono ?_
    rintro e w' ⟨rfl, hg⟩
    exact ⟨rfl, rfl, hg⟩
  | ok x =>
    obtain ⟨u, m'⟩ := x
    rw [hr] at h1
    clear hr
    by_cases hu : 256 < u
    · simp only [EndK, if_pos hu]
      have huI : (256 : Int) < (u : Int) := by omega
      go_enter Tryz.func29, Tryz.ntmps29
      go_wp2_with fail
      refine h1.mono ?_
      rintro e w' ⟨rfl, hs, -⟩
      go_wp2_with fail
      exact ⟨rfl, rfl, hs.2⟩
    · simp only [EndK, if_neg hu]
      have huI : ¬ (256 : Int) < (u : Int) := by omega
      have hu0 : (u : Int) ≤ 256 := by omega
      go_enter Tryz.func29, Tryz.ntmps29
      go_wp2_with fail
      refine h1.mono ?_
      rintro e w' ⟨rfl, hs, -⟩
      go_wp2_with fail
      go_ret
      exact ⟨rfl, hs⟩
theorem threeC {g : Nat} {x y z : Value} {t : TypeId} (h : W.heap[g]? = some (.cells #[x, y, z] t (0, 0))) :
    W.cell? ⟨g, 0, none⟩ = some x ∧ W.cell? ⟨g, 1, none⟩ = some y ∧ W.cell? ⟨g, 2, none⟩ = some z ∧ W.frozen? ⟨g, 0, none⟩ = false ∧ W.frozen? ⟨g, 1, none⟩ = false ∧ W.frozen? ⟨g, 2, none⟩ = false := by
  simp [World.cell?, World.frozen?, h]
/-- An id's bytes. -/
def idq (m : List Int) : Except Int (Int × Nat × Nat × List Int) :=
  match m with
  | [] => .error 72
  | c :: r => match nmb 10 0 0 r with
    | .error e => .error e
    | .ok (t, r2) => if 4294967295 < t then .error 73 else match nmb 10 0 0 r2 with
      | .error e => .error e
      | .ok (u, r3) => .ok (c, t, u, r3)
def EndJ (Z : Nat → Prop) (W : World) (b n tb : Nat) (e : Ending) (w' : World) : Except Int (Int × Nat × Nat × List Int) → Prop
  | .ok (c, t, u, m) => e = .returned (.agg #[.int .i64 c, .int .u32 (t : Int), .int .u64 (u : Int)]) ∧ Sr Z W b w' m n tb ∧ 0 ≤ c ∧ c < 256 ∧ t ≤ 4294967295 ∧ u < 18446744073709551616
  | .error c => e = thr c ∧ Gr (fun k => k = b) W w'
theorem Sr.pre {b n tb : Nat} {m : List Int} {w w' : World} (g : Gr (fun _ => False) W w) (k : Sr Z w b w' m n tb) : Sr Z W b w' m n tb := ⟨k.1, (g.mono (fun _ _ e => e.elim)).trans k.2⟩
theorem Re.g0 {b n tb : Nat} {m : List Int} (h : Re Z W b m n tb) (g : Gr (fun _ => False) W W') : Re Z W' b m n tb := h.gr g (fun _ _ e => e) (fun e => e)
set_option maxRecDepth 20000 in
set_option maxHeartbeats 1600000 in
theorem id_c (W : World) (b n tb : Nat) (m : List Int) (h : Re Z W b m n tb) (hZ : ∀ k, Z k → k < W.heap.size) : Calls Tryz.prog 28 #[pt b] W fun e w' => EndJ Z W b n tb e w' (idq m) := by
  have g0 := fun o => Gr.alloc W o (fun _ => False)
  cases m with
  | nil =>
    have h1 := fun o => one_no (W.alloc o) b n tb (h.g0 (g0 o))
    go_enter Tryz.func28, Tryz.ntmps28
    go_wp2_with fail
    refine (h1 _).mono ?_
    rintro e w' ⟨rfl, hg⟩
    exact ⟨rfl, rfl, ((g0 _).mono (fun _ _ e => e.elim)).trans hg⟩
  | cons c r =>
    have hcb := h.byte c (List.mem_cons_self ..)
    have h1 := fun o => one_ok (W.alloc o) b n tb c r (h.g0 (g0 o))
    have h2 := fun w h => number_c (Z := Z) w b n tb r h
    cases hr : nmb 10 0 0 r with
    | error e =>
      rw [hr] at h2
      rw [show idq (c :: r) = .error e by simp [idq, hr]]
      clear hr
      go_enter Tryz.func28, Tryz.ntmps28
      go_wp2_with fail
      refine (h1 _).mono ?_
      rintro e w1 ⟨rfl, hs1⟩
      go_wp2_with fail
      refine (h2 w1 hs1.1).mono ?_
      rintro e w2 ⟨rfl, hg⟩
      exact ⟨rfl, rfl, (((g0 _).mono (fun _ _ e => e.elim)).trans hs1.2).trans hg⟩
    | ok x =>
      obtain ⟨t, r2⟩ := x
      rw [hr] at h2
      by_cases ht : 4294967295 < t
      · rw [show idq (c :: r) = .error 73 by simp [idq, hr, ht]]
        clear hr
        have htI : (4294967295 : Int) < (t : Int) := by omega
        go_enter Tryz.func28, Tryz.ntmps28
        go_wp2_with fail
        refine (h1 _).mono ?_
        rintro e w1 ⟨rfl, hs1⟩
        go_wp2_with fail
        refine (h2 w1 hs1.1).mono ?_
        rintro e w2 ⟨rfl, hs2, -⟩
        go_wp2_with fail
        exact ⟨rfl, rfl, (((g0 _).mono (fun _ _ e => e.elim)).trans hs1.2).trans hs2.2⟩
      · have htI : ¬ (4294967295 : Int) < (t : Int) := by omega
        have htI2 : (t : Int) ≤ 4294967295 := by omega
        have ht2 : Hid (t ≤ 4294967295) := Lib.hid (by omega)
        have h3 := fun w h => number_c (Z := Z) w b n tb r2 h
        cases hr2 : nmb 10 0 0 r2 with
        | error e =>
          rw [hr2] at h3
          rw [show idq (c :: r) = .error e by simp [idq, hr, ht, hr2]]
          clear hr hr2 ht
          go_enter Tryz.func28, Tryz.ntmps28
          go_wp2_with fail
          refine (h1 _).mono ?_
          rintro e w1 ⟨rfl, hs1⟩
          go_wp2_with fail
          refine (h2 w1 hs1.1).mono ?_
          rintro e w2 ⟨rfl, hs2, -⟩
          go_wp2_with fail
          refine (h3 w2 hs2.1).mono ?_
          rintro e w3 ⟨rfl, hg⟩
          exact ⟨rfl, rfl, ((((g0 _).mono (fun _ _ e => e.elim)).trans hs1.2).trans hs2.2).trans hg⟩
        | ok x =>
          obtain ⟨u, r3⟩ := x
          rw [hr2] at h3
          rw [show idq (c :: r) = .ok (c, t, u, r3) by simp [idq, hr, ht, hr2]]
          clear hr hr2 ht
          have hblt := h.lt
          go_enter Tryz.func28, Tryz.ntmps28
          go_wp2_with fail
          generalize hW0 : W.alloc _ = W0
          have gw : Gr (fun _ => False) W W0 := hW0 ▸ g0 _
          have hN : W0.heap[W.heap.size]? = some (.cells #[.int .i64 0, .int .u32 0, .int .u64 0] 28 (0, 0)) := hW0 ▸ heap_alloc_new W _
          replace h1 : Calls Tryz.prog 23 #[pt b] W0 fun e w' => e = .returned (.int .u8 c) ∧ Sr Z W0 b w' r n tb := hW0 ▸ h1 _
          clear hW0
          refine h1.mono ?_
          rintro e w1 ⟨rfl, hs1⟩
          have hN1 := hs1.2.keep hN (by omega)
          go_wp2_with fail
          refine (h2 w1 hs1.1).mono ?_
          rintro e w2 ⟨rfl, hs2, -⟩
          have hN2 := hs2.2.keep hN1 (by omega)
          go_wp2_with fail
          refine (h3 w2 hs2.1).mono ?_
          rintro e w3 ⟨rfl, hs3, hu⟩
          have hN3 := hs3.2.keep hN2 (by omega)
          have hlt3 := (Array.getElem?_eq_some_iff.1 hN3).1
          obtain ⟨k0, k1, k2, f0, f1, f2⟩ := threeC hN3
          have hs := ((hs1.trans hs2).trans hs3)
          have hwc : IntKind.i64.wrap c = c := by rw [IntKind.wrap_i64]; omega
          have hwt : IntKind.u32.wrap (t : Int) = (t : Int) := by rw [IntKind.wrap_u32]; omega
          have hS := heap_setCell_same _ W.heap.size 2 _ 28 (.int .u64 (u : Int)) (heap_setCell_same _ W.heap.size 1 _ 28 (.int .u32 (t : Int)) (heap_setCell_same w3 W.heap.size 0 _ 28 (.int .i64 c) hN3))
          have gs : Gr (fun k => k = W.heap.size) w3 (((w3.setCell ⟨W.heap.size, 0, none⟩ (.int .i64 c)).setCell ⟨W.heap.size, 1, none⟩ (.int .u32 (t : Int))).setCell ⟨W.heap.size, 2, none⟩ (.int .u64 (u : Int))) :=
            ((Gr.set (S := fun k => k = W.heap.size) _ _ _ rfl).trans (Gr.set (S := fun k => k = W.heap.size) _ _ _ rfl)).trans (Gr.set (S := fun k => k = W.heap.size) _ _ _ rfl)
          have hfin : EndJ Z W b n tb (.returned (.agg #[.int .i64 c, .int .u32 (t : Int), .int .u64 (u : Int)])) (((w3.setCell ⟨W.heap.size, 0, none⟩ (.int .i64 c)).setCell ⟨W.heap.size, 1, none⟩ (.int .u32 (t : Int))).setCell ⟨W.heap.size, 2, none⟩ (.int .u64 (u : Int))) (.ok (c, t, u, r3)) := by
            refine ⟨rfl, ⟨hs.1.gr gs (fun k hk e => by have := hZ k hk; omega) (by omega), ?_⟩, hcb.1, hcb.2, ht2.out, hu⟩
            exact ((gw.mono (fun _ _ e => e.elim)).trans hs.2).trans' gs (fun i hi e => by omega)
          replace hfin := Lib.hid hfin
          clear gs hs
          go_wp2_with fail
          obtain ⟨q0, q1, q2, -⟩ := threeC (by simpa using hS)
          exact bodyPost_ret (v := .agg #[.int .i64 c, .int .u32 (t : Int), .int .u64 (u : Int)]) (by simp [results, Tryz.results28, go_sem, q0, q1, q2]) rfl hfin.out
end Go.Proofs.YtmohehfkbhllpaaGreat

