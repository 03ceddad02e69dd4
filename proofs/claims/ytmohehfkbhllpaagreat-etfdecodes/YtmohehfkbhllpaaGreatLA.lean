/-
  Carried over from another seat of ours (LA).
  Carried over from another seat of ours (LB).
  Carried over from another seat of ours (LC).
-/
import Derived.Test.YtmohehfkbhllpaaGreatKE
import Derived.Test.YtmohehfkbhllpaaGreatBG
import Derived.Deep.RegionLaw
set_option linter.unusedVariables false
set_option linter.unusedSimpArgs false
namespace Go.Proofs.YtmohehfkbhllpaaGreat
open Go.RowKit Go.Maps
variable {S S' G : Nat → Prop} {W W1 W' : World}

theorem Loc.pre {v v' : Value} (g : Gr (fun _ => False) W W1) (k : Loc v W1 v' W') : Loc v W v' W' :=
  ⟨(g.mono (fun _ _ e => e.elim)).trans k.gr, k.at_.imp id (fun h i e => Nat.le_trans g.size (h i e))⟩
/-- The writer at wb: the bytes so far, the names so far; its blocks lie in G. -/
structure Wt (G : Nat → Prop) (W : World) (wb tb : Nat) (l : List Int) (ns : List ByteArray) (bv : Value) : Prop where
  blk : W.heap[wb]? = some (.cells #[bv, pt tb] 60 (0, 0))
  row : Ob 0 W bv l
  tab : ∃ mp sv, Tab W tb mp sv ns ∧ ∀ k, Fp tb mp sv k → G k
  gw : G wb
  gb : ∀ k, bv.ownBlock = some k → G k
theorem Wt.lt {wb tb : Nat} {l : List Int} {ns : List ByteArray} {bv : Value} (h : Wt G W wb tb l ns bv) : wb < W.heap.size := (Array.getElem?_eq_some_iff.1 h.blk).1
theorem Ob.blk {base : Nat} {bv : Value} {l : List Int} (h : Ob base W bv l) (k : Nat) (e : bv.ownBlock = some k) : ∃ cur, W.heap[k]? = some (.cells cur 5 (0, 0)) := by
  rcases h.row.2 with ⟨rfl, _⟩ | ⟨g, cap, cur, rfl, hg, h2, h3⟩
  · simp [Value.ownBlock] at e
  · simp [Value.ownBlock] at e; subst e; exact ⟨cur, h2⟩
theorem Wt.nb {wb tb : Nat} {l : List Int} {ns : List ByteArray} {bv : Value} (h : Wt G W wb tb l ns bv) : bv.ownBlock ≠ some wb := fun e => by
  obtain ⟨cur, hc⟩ := h.row.blk wb e
  rw [h.blk] at hc; cases hc
theorem Tab.kind {b : Nat} {m : Option Nat} {sv : Value} {l : List ByteArray} (h : Tab W b m sv l) (k : Nat) (e : Fp b m sv k) : (∀ c, W.heap[k]? ≠ some (.cells c 5 (0, 0))) ∧ ∀ c, W.heap[k]? ≠ some (.cells c 60 (0, 0)) := by
  rcases e with rfl | e | e
  · exact ⟨fun c hc => (by rw [h.blk] at hc; cases hc), fun c hc => (by rw [h.blk] at hc; cases hc)⟩
  · rcases h.map with ⟨rfl, _⟩ | ⟨mb, d, rfl, ⟨es, cl, h1, _⟩, _⟩
    · cases e
    · cases e; exact ⟨fun c hc => (by rw [h1] at hc; cases hc), fun c hc => (by rw [h1] at hc; cases hc)⟩
  · rcases h.row.2 with ⟨rfl, _⟩ | ⟨g, cap, cur, rfl, hg, h2, h3⟩
    · simp [Value.ownBlock] at e
    · simp [Value.ownBlock] at e; subst e
      exact ⟨fun c hc => (by rw [h2] at hc; cases hc), fun c hc => (by rw [h2] at hc; cases hc)⟩
/-- What the writer has turned, and where it is now. -/
structure Wn (G : Nat → Prop) (W : World) (wb tb : Nat) (w' : World) (l : List Int) (ns : List ByteArray) : Prop where
  at_ : ∃ G' bv, Wt G' w' wb tb l ns bv ∧ ∀ k, G' k → G k ∨ W.heap.size ≤ k
  gr : Gr G W w'
theorem Wn.refl {wb tb : Nat} {l : List Int} {ns : List ByteArray} {bv : Value} (h : Wt G W wb tb l ns bv) : Wn G W wb tb W l ns := ⟨⟨G, bv, h, fun _ e => .inl e⟩, Gr.refl _ _⟩
theorem Wn.step {G1 : Nat → Prop} {wb tb : Nat} {l' : List Int} {ns' : List ByteArray} {w w' : World} (hgr : Gr G W w) (hG1 : ∀ k, G1 k → G k ∨ W.heap.size ≤ k) (k1 : Wn G1 w wb tb w' l' ns') : Wn G W wb tb w' l' ns' := by
  obtain ⟨G2, bv2, h2, hG2⟩ := k1.at_
  refine ⟨⟨G2, bv2, h2, fun i hi => ?_⟩, hgr.trans' k1.gr (fun i hi e => ?_)⟩
  · rcases hG2 i hi with e | e
    · exact hG1 i e
    · exact .inr (Nat.le_trans hgr.size e)
  · rcases hG1 i e with e | e
    · exact e
    · omega
theorem Wt.g0 {wb tb : Nat} {l : List Int} {ns : List ByteArray} {bv : Value} (h : Wt G W wb tb l ns bv) (g : Gr S W W') (hs : ∀ k, G k → ¬ S k) : Wt G W' wb tb l ns bv := by
  obtain ⟨mp, sv, ht, hf⟩ := h.tab
  exact ⟨g.keep h.blk (hs _ h.gw), h.row.gr g (fun k _ e => hs k (h.gb k e)), ⟨mp, sv, ht.gr g (fun i hi => hs i (hf i hi)), hf⟩, h.gw, h.gb⟩
/-- The row of bytes grown, and its value laid into the writer. -/
theorem Wt.app {wb tb : Nat} {l l' : List Int} {ns : List ByteArray} {bv v1 : Value} {w1 : World} (h : Wt G W wb tb l ns bv) (o1 : Ob 0 w1 v1 l') (k1 : Loc bv W v1 w1) : Wn G W wb tb (w1.setCell ⟨wb, 0, none⟩ v1) l' ns := by
  have hb1 : w1.heap[wb]? = some (.cells #[bv, pt tb] 60 (0, 0)) := k1.gr.keep h.blk h.nb
  have hset : (w1.setCell ⟨wb, 0, none⟩ v1).heap[wb]? = some (.cells #[v1, pt tb] 60 (0, 0)) := heap_setCell_same w1 wb 0 _ 60 _ hb1
  have hg2 : Gr (fun k => k = wb) w1 (w1.setCell ⟨wb, 0, none⟩ v1) := Gr.set (S := fun k => k = wb) w1 ⟨wb, 0, none⟩ _ rfl
  obtain ⟨mp, sv, ht, hf⟩ := h.tab
  have hn1 : v1.ownBlock ≠ some wb := k1.own_ne h.lt h.nb
  have hrow : Ob 0 (w1.setCell ⟨wb, 0, none⟩ v1) v1 l' := o1.gr hg2 (fun k _ e e2 => hn1 (e2 ▸ e))
  have hgr : Gr G W (w1.setCell ⟨wb, 0, none⟩ v1) := (k1.gr.mono (fun k _ e => h.gb k e)).trans' hg2 (fun i hi e => by subst e; exact h.gw)
  have htab : Tab (w1.setCell ⟨wb, 0, none⟩ v1) tb mp sv ns := by
    refine ht.kept (fun k hk => ?_)
    obtain ⟨n5, n50⟩ := ht.kind k hk
    have hlt := ht.lt k hk
    rw [hg2.block k (Nat.lt_of_lt_of_le hlt k1.gr.size) (fun e => by subst e; exact n50 _ h.blk)]
    exact k1.gr.block k hlt (fun e => by obtain ⟨cur, hc⟩ := h.row.blk k e; exact n5 cur hc)
  refine ⟨⟨fun k => G k ∨ v1.ownBlock = some k, v1, ⟨hset, hrow, ⟨mp, sv, htab, fun k hk => .inl (hf k hk)⟩, .inl h.gw, fun k e => .inr e⟩, fun k hk => ?_⟩, hgr⟩
  rcases hk with e | e
  · exact .inl e
  · rcases k1.at_ with e2 | e2
    · exact .inl (h.gb k (e2 ▸ e))
    · exact .inr (e2 k e)

/-- A number's bytes; f: how many more there may be. -/
def vqF : Nat → Nat → List Int
  | 0, n => [(n : Int)]
  | f + 1, n => if n < 128 then [(n : Int)] else ((128 + n % 128 : Nat) : Int) :: vqF f (n / 128)
def vq (n : Nat) : List Int := vqF 9 n
theorem vqF_len : ∀ (f n : Nat), (vqF f n).length ≤ f + 1
  | 0, n => by simp [vqF]
  | f + 1, n => by
    rw [vqF]; split
    · simp
    · have := vqF_len f (n / 128); simp; omega
set_option maxRecDepth 20000 in
theorem or128 (c : Nat) (hc : c < 256) : bits .or .u8 128 (c : Int) = ((128 + c % 128 : Nat) : Int) := by
  have : ∀ c : Fin 256, bits .or .u8 128 ((c.val : Nat) : Int) = ((128 + c.val % 128 : Nat) : Int) := by decide
  exact this ⟨c, hc⟩
theorem or128w (n : Nat) : bits .or .u8 128 ((n : Int) % 256) = ((128 + n % 128 : Nat) : Int) := by
  have h1 : (n : Int) % 256 = ((n % 256 : Nat) : Int) := by omega
  rw [h1, or128 _ (by omega)]
  omega
set_option maxRecDepth 20000 in
set_option maxHeartbeats 1600000 in
theorem wnumber_c (W : World) (wb tb : Nat) (l : List Int) (ns : List ByteArray) (bv : Value) (n : Nat) (hn : n < 18446744073709551616) (h : Wt G W wb tb l ns bv) (hl : l.length ≤ 900000) :
    Calls Tryz.prog 40 #[pt wb, .int .u64 (n : Int)] W fun e w' => e = .returned (.tuple #[]) ∧ Wn G W wb tb w' (l ++ vq n) ns := by
  obtain ⟨L, hL⟩ : ∃ L, l ++ vq n = L := ⟨_, rfl⟩
  rw [hL]
  have HL := Lib.hid hL
  clear hL
  go_enter Tryz.func40, Tryz.ntmps40
  go_wp2_with fail
  go_loopw [1] (fun v wr => ∃ (f k : Nat) (l1 : List Int), v = .int .u64 (k : Int) ∧ Hid (L = l1 ++ vqF f k) ∧ Hid (k < 128 ^ (f + 1) ∧ k < 18446744073709551616) ∧ l1.length + f ≤ 900009 ∧ Wn G W wb tb wr l1 ns) (fun v _ => (intOf v).toNat)
  case atStart => exact ⟨9, n, l, rfl, Lib.hid HL.out.symm, Lib.hid ⟨by omega, hn⟩, by omega, Wn.refl h⟩
  case round =>
    obtain ⟨f, k, l1, rfl, HL1, Hk, hl1, hw⟩ := hrel
    obtain ⟨hk1, hk2⟩ := Hk.out
    obtain ⟨G1, bv1, h1, hG1⟩ := hw.at_
    obtain ⟨xa, xc, rfl⟩ := h1.row.sv
    have hcell : wr.cell? ⟨wb, 0, none⟩ = some (.slice xa l1.length xc) ∧ wr.frozen? ⟨wb, 0, none⟩ = false := by have := h1.blk; simp [World.cell?, World.frozen?, this]
    obtain ⟨c0, f0⟩ := hcell
    have hb := h1.lt
    have hbs : (0 : Nat) ≤ wr.heap.size := Nat.zero_le _
    by_cases hbig : k < 128
    · have hkI : ¬ (127 : Int) < (k : Int) := by omega
      have hkI2 : (k : Int) < 128 := by omega
      have hk0 : (0 : Int) ≤ (k : Int) := by omega
      have hfk : vqF f k = [(k : Int)] := by cases f <;> simp [vqF, hbig]
      have hLf : Hid (l1 ++ [(k : Int)] = L) := Lib.hid (by rw [HL1.out, hfk])
      have hwk : IntKind.u8.wrap (k : Int) = (k : Int) := by rw [IntKind.wrap_u8]; omega
      have hlit := (Ob.lit 0 wr [(k : Int)] (by simp) (Nat.zero_le _) #[.int .u8 (k : Int)] rfl 1 rfl)
      obtain ⟨m1, hm1⟩ : ∃ m, Hid ((l1 ++ [(k : Int)]).length = m) := ⟨_, Lib.hid rfl⟩
      clear hfk HL1 Hk hk1 hk2
      go_wp2_with (first
        | (at_builtin; refine wpList_ap rfl _ _ rfl 0 _ _ l1 [(k : Int)] rfl rfl (h1.row.g0 (Gr.alloc _ _ _)) hlit.sb (by simp; omega) (Nat.zero_le _) ?_; intro v1 w1 o1 g1; have gg := Loc.pre (Gr.alloc wr _ _) g1; have hc1 := g1.gr.keep ((Gr.alloc wr _ (fun _ => False)).keep h1.blk (fun e => e)) (by exact h1.nb); have hcell1 : w1.cell? ⟨wb, 0, none⟩ = some (.slice xa l1.length xc) ∧ w1.frozen? ⟨wb, 0, none⟩ = false := (by simp [World.cell?, World.frozen?, hc1]); obtain ⟨c01, f01⟩ := hcell1; have hb1 : wb < w1.heap.size := (Array.getElem?_eq_some_iff.1 hc1).1; obtain ⟨ya, yc, rfl⟩ := o1.sv; rw [hm1.out] at o1 gg g1 ⊢))
      go_end0
      have hA := h1.app o1 gg
      rw [hLf.out] at hA
      exact ⟨rfl, Wn.step hw.gr hG1 hA⟩
    · have hkI : (127 : Int) < (k : Int) := by omega
      obtain ⟨f, rfl⟩ : ∃ f', f = f' + 1 := by
        cases f with
        | zero => exfalso; omega
        | succ f => exact ⟨f, rfl⟩
      have hfk : vqF (f + 1) k = ((128 + k % 128 : Nat) : Int) :: vqF f (k / 128) := by rw [vqF, if_neg hbig]
      have hLf : Hid (L = l1 ++ [((128 + k % 128 : Nat) : Int)] ++ vqF f (k / 128)) := Lib.hid (by rw [HL1.out, hfk]; simp)
      have horv := or128w k
      have hlit := (Ob.lit 0 wr [((128 + k % 128 : Nat) : Int)] (by simp) (Nat.zero_le _) #[.int .u8 ((128 + k % 128 : Nat) : Int)] rfl 1 rfl)
      have hkd : Hid ((k : Int) / 128 = ((k / 128 : Nat) : Int)) := Lib.hid (by omega)
      have hk3 : Hid (k / 128 < 128 ^ (f + 1) ∧ k / 128 < 18446744073709551616) := Lib.hid ⟨by rw [Nat.div_lt_iff_lt_mul (by decide), ← Nat.pow_succ]; exact hk1, by omega⟩
      obtain ⟨cc, hcc⟩ : ∃ cc, ((128 + k % 128 : Nat) : Int) = cc := ⟨_, rfl⟩
      rw [hcc] at hLf horv hlit
      have hkm : Hid ((k / 128) < k) := Lib.hid (by omega)
      obtain ⟨m1, hm1⟩ : ∃ m, Hid ((l1 ++ [cc]).length = m) := ⟨_, Lib.hid rfl⟩
      clear hfk HL1 Hk hk1 hk2 hcc
      go_wp2_with (first
        | (at_builtin; refine wpList_ap rfl _ _ rfl 0 _ _ l1 [cc] rfl rfl (h1.row.g0 (Gr.alloc _ _ _)) hlit.sb (by simp; omega) (Nat.zero_le _) ?_; intro v1 w1 o1 g1; have gg := Loc.pre (Gr.alloc wr _ _) g1; have hc1 := g1.gr.keep ((Gr.alloc wr _ (fun _ => False)).keep h1.blk (fun e => e)) (by exact h1.nb); have hcell1 : w1.cell? ⟨wb, 0, none⟩ = some (.slice xa l1.length xc) ∧ w1.frozen? ⟨wb, 0, none⟩ = false := (by simp [World.cell?, World.frozen?, hc1]); obtain ⟨c01, f01⟩ := hcell1; have hb1 : wb < w1.heap.size := (Array.getElem?_eq_some_iff.1 hc1).1; obtain ⟨ya, yc, rfl⟩ := o1.sv; rw [hm1.out] at o1 gg g1 ⊢))
      have hA := Wn.step hw.gr hG1 (h1.app o1 gg)
      refine ⟨⟨f, k / 128, l1 ++ [cc], by rw [hkd.out], hLf, hk3, by simp; omega, hA⟩, ?_⟩
      have := hkm.out
      simp only [intOf]
      omega
end Go.Proofs.YtmohehfkbhllpaaGreat


namespace Go.Proofs.YtmohehfkbhllpaaGreat
open Go.RowKit Go.Maps
variable {S S' G : Nat → Prop} {W W1 W' : World}

/-- So many bytes of a number, the highest first. -/
def bq (n x : Nat) : List Int := (List.range n).map fun q => ((x / 256 ^ (n - 1 - q) % 256 : Nat) : Int)
end Go.Proofs.YtmohehfkbhllpaaGreat


namespace Go.Proofs.YtmohehfkbhllpaaGreat
open Go.RowKit Go.Maps
variable {S S' G : Nat → Prop} {W W1 W' : World}

def tbs (s : ByteArray) : List Int := tb s
/-- A name's bytes behind the names ns. -/
def nq (s : ByteArray) (ns : List ByteArray) : List Int := match fnd ns s 0 with
  | some k => vq k
  | none => vq ns.length ++ ((s.size : Int) :: tbs s)
theorem Wt.put {wb tb : Nat} {l : List Int} {ns ns' : List ByteArray} {bv sv : Value} {mp : Option Nat} (h : Wt G W wb tb l ns bv) (ht : Tab W tb mp sv ns) (hf : ∀ k, Fp tb mp sv k → G k) (ha : Added W W' tb mp sv ns') : ∃ G', Wt G' W' wb tb l ns' bv ∧ (∀ k, G' k → G k ∨ W.heap.size ≤ k) ∧ Gr G W W' := by
  obtain ⟨m', sv', ht', hg', hf', -⟩ := ha
  have nw : ¬ Fp tb mp sv wb := fun e => (ht.kind wb e).2 _ h.blk
  have nr : ∀ k, bv.ownBlock = some k → ¬ Fp tb mp sv k := fun k e e2 => by obtain ⟨cur, hc⟩ := h.row.blk k e; exact (ht.kind k e2).1 cur hc
  refine ⟨fun k => G k ∨ Fp tb m' sv' k, ⟨hg'.keep h.blk nw, h.row.gr hg' (fun k _ e => nr k e), ⟨m', sv', ht', fun k e => .inr e⟩, .inl h.gw, fun k e => .inl (h.gb k e)⟩, fun k hk => ?_, hg'.mono (fun k _ e => hf k e)⟩
  rcases hk with e | e
  · exact .inl e
  · exact (hf' k e).imp (hf k) id
theorem fnd_lt : ∀ (l : List ByteArray) (s : ByteArray) (n k : Nat), fnd l s n = some k → k < n + l.length
  | [], s, n, k, h => by simp [fnd] at h
  | a :: r, s, n, k, h => by
    rw [fnd] at h
    split at h
    · cases h; simp
    · have := fnd_lt r s (n + 1) k h; simp; omega
theorem two50 {g : Nat} {x y : Value} (h : W.heap[g]? = some (.cells #[x, y] 60 (0, 0))) : W.cell? ⟨g, 0, none⟩ = some x ∧ W.cell? ⟨g, 1, none⟩ = some y ∧ W.frozen? ⟨g, 0, none⟩ = false := by
  simp [World.cell?, World.frozen?, h]
set_option maxRecDepth 20000 in
set_option maxHeartbeats 1600000 in
theorem wname_c (W : World) (wb tb : Nat) (l : List Int) (ns : List ByteArray) (bv : Value) (s : ByteArray) (hs : isName s = true) (h4 : ns.length < 4096) (h : Wt G W wb tb l ns bv) (hl : l.length ≤ 800000) :
    Calls Tryz.prog 43 #[pt wb, .string s] W fun e w' => e = .returned (.tuple #[]) ∧ Wn G W wb tb w' (l ++ nq s ns) (putL ns s) := by
  obtain ⟨mp, sv, ht, hf⟩ := h.tab
  have hLen := len_c W tb mp sv ns ht
  have hPut := put_c W tb mp sv ns s ht
  obtain ⟨c0, c1, f0⟩ := two50 h.blk
  have hs32 : s.size ≤ 32 := (isName_size hs).2
  have hnI : (ns.length : Int) < 4096 := by omega
  cases hfd : fnd ns s 0 with
  | some k =>
    have hkl : k < ns.length := by have := fnd_lt ns s 0 k hfd; omega
    have hN : putN ns s = (k : Int) := by simp [putN, hs, hfd]
    have hE : putE ns s = 0 := by simp [putE, hs, hfd]
    rw [hN, hE] at hPut
    have hnum := fun w G' bv' (h : Wt G' w wb tb l (putL ns s) bv') => wnumber_c w wb tb l (putL ns s) bv' k (by omega) h (by omega)
    have hq : Hid (l ++ nq s ns = l ++ vq k) := Lib.hid (by simp [nq, hfd])
    rw [hq.out]
    have hkI : (k : Int) < (ns.length : Int) := by omega
    have hk0 : (0 : Int) ≤ (k : Int) := by omega
    have hne : ((k : Int) == (ns.length : Int)) = false := by simp; omega
    clear hfd hN hE hq hkl
    go_enter Tryz.func43, Tryz.ntmps43
    go_wp2_with fail
    refine hLen.mono ?_
    rintro e w0 ⟨rfl, rfl⟩
    go_wp2_with fail
    refine hPut.mono ?_
    rintro e w1 ⟨rfl, hadd⟩
    obtain ⟨G1, h1, hG1, hgr1⟩ := h.put ht hf hadd
    go_wp2_with fail
    refine (hnum w1 G1 bv h1).mono ?_
    rintro e w2 ⟨rfl, hw2⟩
    have hw2' := Wn.step hgr1 hG1 hw2
    go_wp2_with fail
    go_end0
    exact ⟨rfl, hw2'⟩
  | none =>
    have hN : putN ns s = (ns.length : Int) := by simp [putN, hs, hfd]; omega
    have hE : putE ns s = 0 := by simp [putE, hs, hfd]; omega
    rw [hN, hE] at hPut
    have hnum := fun w G' bv' (h : Wt G' w wb tb l (putL ns s) bv') => wnumber_c w wb tb l (putL ns s) bv' ns.length (by omega) h (by omega)
    have hq : Hid (l ++ nq s ns = l ++ vq ns.length ++ [(s.size : Int)] ++ tbs s) := Lib.hid (by simp [nq, hfd])
    rw [hq.out]
    have hvl : (l ++ vq ns.length).length ≤ 800010 := by have := vqF_len 9 ns.length; simp [vq]; omega
    generalize l ++ vq ns.length = L at *
    obtain ⟨m3, hm3⟩ : ∃ m, Hid ((L ++ [(s.size : Int)]).length = m) := ⟨_, Lib.hid rfl⟩
    obtain ⟨m4, hm4⟩ : ∃ m, Hid ((L ++ [(s.size : Int)] ++ YtmohehfkbhllpaaGreat.tb s).length = m) := ⟨_, Lib.hid rfl⟩
    clear hfd hN hE hq
    go_enter Tryz.func43, Tryz.ntmps43
    go_wp2_with fail
    refine hLen.mono ?_
    rintro e w0 ⟨rfl, rfl⟩
    go_wp2_with fail
    refine hPut.mono ?_
    rintro e w1 ⟨rfl, hadd⟩
    obtain ⟨G1, h1, hG1, hgr1⟩ := h.put ht hf hadd
    go_wp2_with fail
    refine (hnum w1 G1 bv h1).mono ?_
    rintro e w2 ⟨rfl, hw2⟩
    have hw2' := Wn.step hgr1 hG1 hw2
    obtain ⟨G2, bv2, h2, hG2⟩ := hw2'.at_
    obtain ⟨xa, xc, rfl⟩ := h2.row.sv
    obtain ⟨d0, d1, e0⟩ := two50 h2.blk
    have hb2 := h2.lt
    have hlit := (Ob.lit 0 w2 [(s.size : Int)] (by simp) (Nat.zero_le _) #[.int .u8 (s.size : Int)] rfl 1 rfl)
    have hsI : (s.size : Int) ≤ 32 := by omega
    go_wp2_with (first
      | (at_builtin; refine wpList_ap rfl _ _ rfl 0 _ _ L [(s.size : Int)] rfl rfl (h2.row.g0 (Gr.alloc _ _ _)) hlit.sb (by simp; omega) (Nat.zero_le _) ?_; intro v3 w3 o3 g3; have gg3 := Loc.pre (Gr.alloc w2 _ _) g3; have hc3 := g3.gr.keep ((Gr.alloc w2 _ (fun _ => False)).keep h2.blk (fun e => e)) (by exact h2.nb); obtain ⟨y0, y1, y2⟩ := two50 hc3; have hb3 : wb < w3.heap.size := (Array.getElem?_eq_some_iff.1 hc3).1; obtain ⟨ya, yc, rfl⟩ := o3.sv; rw [hm3.out] at o3 gg3 g3 ⊢)
      | (at_builtin; refine wpList_aps rfl _ _ rfl 0 _ s (L ++ [(s.size : Int)]) rfl rfl o3 (by simp; omega) (Nat.zero_le _) ?_; intro v4 w4 o4 g4; have gg4 := gg3.trans g4; have hc4 := g4.gr.keep hc3 (fun e => (gg3.own_ne hb2 h2.nb) e); obtain ⟨z0, z1, z2⟩ := two50 hc4; have hb4 : wb < w4.heap.size := (Array.getElem?_eq_some_iff.1 hc4).1; obtain ⟨za, zc, rfl⟩ := o4.sv; rw [hm4.out] at o4 gg4 g4 ⊢))
    go_end0
    exact ⟨rfl, Wn.step hw2'.gr hG2 (h2.app o4 gg4)⟩
end Go.Proofs.YtmohehfkbhllpaaGreat

