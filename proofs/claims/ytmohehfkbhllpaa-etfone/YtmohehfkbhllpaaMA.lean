/-
  Which bytes a term was read of: they are what the writer lays for it.
  What is read of bytes is right, and the writer lays just these bytes.
-/
import Derived.Test.YtmohehfkbhllpaaKF
import Derived.Test.YtmohehfkbhllpaaLF
import Derived.Test.YtmohehfkbhllpaaBS
import Derived.Test.YtmohehfkbhllpaaBN
import Derived.Test.YtmohehfkbhllpaaBV
set_option linter.unusedVariables false
set_option linter.unusedSimpArgs false
namespace Go.Proofs.Ytmohehfkbhllpaa
open Go.RowKit Go.Maps

def Byt (m : List Int) : Prop := ∀ x ∈ m, 0 ≤ x ∧ x < 256
theorem Byt.tail {c : Int} {m : List Int} (h : Byt (c :: m)) : Byt m := fun x hx => h x (List.mem_cons_of_mem _ hx)
theorem Byt.head {c : Int} {m : List Int} (h : Byt (c :: m)) : 0 ≤ c ∧ c < 256 := h c (List.mem_cons_self ..)
theorem Byt.right {x m : List Int} (h : Byt (x ++ m)) : Byt m := fun y hy => h y (List.mem_append_right _ hy)
theorem vqF_small (f : Nat) {n : Nat} (h : n < 128) : vqF f n = [(n : Int)] := by cases f <;> simp [vqF, h]
theorem nmb_vq : ∀ (f k a : Nat) (m : List Int) (u : Nat) (r : List Int), k + f = 9 → Byt m → nmb (f + 1) k a m = .ok (u, r) → ∃ w, u = a + w * 2 ^ (7 * k) ∧ m = vqF f w ++ r ∧ (0 < k → 1 ≤ w) ∧ w < 128 ^ (f + 1)
  | f, k, a, [], u, r, hk, hb, h => by simp [nmb] at h
  | f, k, a, c :: m, u, r, hk, hb, h => by
    have hc := hb.head
    obtain ⟨c, rfl⟩ := Int.eq_ofNat_of_zero_le hc.1
    rw [nmb] at h
    split at h
    · cases h
    · rename_i hbad
      split at h
      · rename_i hlt
        cases h
        have hlt' : c < 128 := by omega
        refine ⟨c, ?_, ?_, fun hk0 => ?_, ?_⟩
        · show _ = _; rw [show ((c : Int)).toNat % 128 = c by simp; omega]
        · rw [vqF_small f hlt']; rfl
        · rcases Nat.eq_zero_or_pos c with e | e
          · exact absurd (.inr ⟨hk0, by omega⟩) hbad
          · exact e
        · exact Nat.lt_of_lt_of_le hlt' (by rw [Nat.pow_succ]; have := Nat.pow_pos (n := f) (show 0 < 128 by decide); omega)
      · rename_i hge
        cases f with
        | zero => exact absurd (.inl ⟨by omega, by omega⟩) hbad
        | succ f =>
          obtain ⟨w, e1, e2, e3, e4⟩ := nmb_vq f (k + 1) _ m u r (by omega) hb.tail h
          have hw := e3 (by omega)
          refine ⟨c % 128 + 128 * w, ?_, ?_, fun _ => by omega, ?_⟩
          · have hp : 2 ^ (7 * (k + 1)) = 128 * 2 ^ (7 * k) := by rw [show 7 * (k + 1) = 7 + 7 * k by omega, Nat.pow_add]
            have hq : w * (128 * 2 ^ (7 * k)) = 128 * w * 2 ^ (7 * k) := by rw [← Nat.mul_assoc, Nat.mul_comm w 128]
            rw [e1, hp, hq, show ((c : Int)).toNat = c by simp, Nat.add_mul]
            omega
          · rw [vqF, if_neg (by omega), show (c % 128 + 128 * w) / 128 = w by omega, e2, show 128 + (c % 128 + 128 * w) % 128 = c by omega]
            rfl
          · rw [Nat.pow_succ]; omega
theorem num_vq {m : List Int} {u : Nat} {r : List Int} (hb : Byt m) (h : nmb 10 0 0 m = .ok (u, r)) : m = vq u ++ r := by
  obtain ⟨w, e1, e2, -⟩ := nmb_vq 9 0 0 m u r rfl hb h
  obtain rfl : u = w := by simpa using e1
  exact e2

theorem num_lt {m : List Int} {u : Nat} {r : List Int} (hb : Byt m) (h : nmb 10 0 0 m = .ok (u, r)) : u < 128 ^ 10 := by
  obtain ⟨w, e1, e2, e3, e4⟩ := nmb_vq 9 0 0 m u r rfl hb h
  obtain rfl : u = w := by simpa using e1
  exact e4
theorem fol_unf (u : Nat) : fol (unf (u : Int)) = u := by
  unfold fol unf
  by_cases h : (u : Int) % 2 = 1
  · rw [if_pos h, if_pos (by omega)]; omega
  · rw [if_neg h, if_neg (by omega)]; omega
theorem bq_snoc (n x : Nat) : bq (n + 1) x = bq n (x / 256) ++ [((x % 256 : Nat) : Int)] := by
  unfold bq
  rw [List.range_succ, List.map_append]
  congr 1
  · apply List.map_congr_left
    intro q hq
    have hq' := List.mem_range.1 hq
    congr 2
    rw [show n + 1 - 1 - q = (n - 1 - q) + 1 by omega, Nat.pow_succ, Nat.mul_comm, ← Nat.div_div_eq_div_mul]
  · simp
theorem bq_be : ∀ (n : Nat) (l : List Int), l.length = n → Byt l → bq n (be l) = l
  | 0, l, hl, hb => by rw [List.eq_nil_of_length_eq_zero hl]; rfl
  | n + 1, l, hl, hb => by
    obtain ⟨l', c, rfl⟩ : ∃ l' c, l = l' ++ [c] := ⟨l.dropLast, l.getLast (fun e => by rw [e] at hl; simp at hl), (List.dropLast_concat_getLast _).symm⟩
    have hc := hb c (by simp)
    rw [be_snoc, bq_snoc, show (be l' * 256 + c.toNat) / 256 = be l' by omega, show (be l' * 256 + c.toNat) % 256 = c.toNat by omega, bq_be n l' (by simpa using hl) (fun x hx => hb x (by simp [hx])), Int.toNat_of_nonneg hc.1]
theorem cx_bq {m : List Int} (hb : Byt m) (h : ¬ m.length < 16) : m = bq 8 (be (m.take 8)) ++ bq 8 (be ((m.drop 8).take 8)) ++ m.drop 16 ∧ be (m.take 8) < 18446744073709551616 ∧ be ((m.drop 8).take 8) < 18446744073709551616 := by
  have h1 : (m.take 8).length = 8 := by rw [List.length_take]; omega
  have h2 : ((m.drop 8).take 8).length = 8 := by rw [List.length_take, List.length_drop]; omega
  have b1 : Byt (m.take 8) := fun x hx => hb x (List.mem_of_mem_take hx)
  have b2 : Byt ((m.drop 8).take 8) := fun x hx => hb x (List.mem_of_mem_drop (List.mem_of_mem_take hx))
  have l1 := be_lt _ b1
  have l2 := be_lt _ b2
  rw [h1] at l1
  rw [h2] at l2
  refine ⟨?_, l1, l2⟩
  rw [bq_be 8 _ h1 b1, bq_be 8 _ h2 b2, List.append_assoc]
  have e : m.drop 16 = (m.drop 8).drop 8 := by rw [List.drop_drop]
  rw [e, List.take_append_drop, List.take_append_drop]

/-! ### Names -/
/-- Names, each one once. -/
def OkN (l : List ByteArray) : Prop := ∀ i x, l[i]? = some x → isName x = true ∧ fnd l x 0 = some i
theorem OkN.nil : OkN [] := fun i x h => by simp at h
theorem OkN.snoc {l : List ByteArray} {s : ByteArray} (h : OkN l) (hs : isName s = true) (hn : fnd l s 0 = none) : OkN (l ++ [s]) := fun i x hx => by
  rw [fnd_snoc]
  by_cases hi : i < l.length
  · rw [List.getElem?_append_left hi] at hx
    obtain ⟨h1, h2⟩ := h i x hx
    exact ⟨h1, by rw [h2]; rfl⟩
  · rw [List.getElem?_append_right (by omega)] at hx
    obtain ⟨h3, h4⟩ : i - l.length = 0 ∧ x = s := by
      have hlt := (List.getElem?_eq_some_iff.1 hx).1
      simp at hlt
      have : i - l.length = 0 := by omega
      rw [this] at hx
      simp at hx
      exact ⟨this, hx.symm⟩
    subst h4
    refine ⟨hs, ?_⟩
    rw [hn]
    simp
    omega
theorem inN_a (c : Int) (h : inNa c = true) : inN c = true := by
  simp only [inNa, oth, inN, dig, low, Bool.or_eq_true, Bool.and_eq_true, decide_eq_true_eq, beq_iff_eq] at *
  omega
theorem atom_ok {s : ByteArray} (h : isName s = true) : FaultOk (.mk { k := 3, s := s } [] []) := by
  have hz := isName_size h
  simp only [isName, Bool.and_eq_true, decide_eq_true_eq] at h
  refine ok_atom s hz.1 hz.2 h.1.2 (fun j hj => inN_a _ ?_)
  have := h.2
  unfold allN at this
  rw [List.all_eq_true] at this
  exact this j (List.mem_range.2 hj)
theorem tbs_sb (l : List Int) (hb : Byt l) : tbs (sb l) = l := by
  have key : ∀ (l : List Int) (r : ByteArray), Byt l → tb (l.foldl (fun r n => r.push (UInt8.ofNat n.toNat)) r) = tb r ++ l := by
    intro l
    induction l with
    | nil => intro r _; simp
    | cons x l ih =>
      intro r hb
      rw [List.foldl_cons, ih _ hb.tail]
      have hx := hb.head
      have : tb (r.push (UInt8.ofNat x.toNat)) = tb r ++ [x] := by
        simp [tb, ByteArray.push]
        omega
      rw [this]; simp
  have := key l ByteArray.empty hb
  simpa [tbs, sb, tb] using this
theorem nm_nq {m m' : List Int} {l l' : List ByteArray} {s : ByteArray} (hb : Byt m) (hN : OkN l) (h4 : l.length < 4096) (h : nmq m l = .ok (s, m', l')) : m = nq s l ++ m' ∧ isName s = true ∧ l' = putL l s ∧ OkN l' ∧ l'.length ≤ l.length + 1 := by
  unfold nmq at h
  split at h
  · cases h
  · rename_i u r hr
    have e1 := num_vq hb hr
    split at h
    · cases h
    · rename_i hu
      split at h
      · rename_i hul
        split at h
        · cases h
        · rename_i r' l2 hw
          cases h
          subst hul
          unfold nwq at hw
          split at hw
          · cases hw
          · rename_i c r2 
            have hbr : Byt (c :: r2) := by rw [e1] at hb; exact hb.right
            have hc := hbr.head
            split at hw
            · cases hw
            · rename_i hcb
              split at hw
              · cases hw
              · rename_i hlen
                split at hw
                · cases hw
                · rename_i hfs
                  split at hw
                  · rename_i hE
                    cases hw
                    have hbt : Byt (r2.take c.toNat) := fun x hx => hbr.tail x (List.mem_of_mem_take hx)
                    have hfn : fnd l (sb (r2.take c.toNat)) 0 = none := by
                      cases hf : fnd l (sb (r2.take c.toNat)) 0 with
                      | none => rfl
                      | some k => rw [hf] at hfs; simp at hfs
                    have hname : isName (sb (r2.take c.toNat)) = true := by
                      unfold putE at hE
                      split at hE
                      · assumption
                      · cases hE
                    have hpl : putL l (sb (r2.take c.toNat)) = l ++ [sb (r2.take c.toNat)] := by
                      unfold putL; rw [if_pos hname, hfn]; simp; omega
                    have hS : nameS (putL l (sb (r2.take c.toNat))) (l.length : Int) = sb (r2.take c.toNat) := by
                      rw [hpl]; unfold nameS
                      rw [if_pos (by simp; omega)]
                      simp [List.getD]
                    rw [hS]
                    refine ⟨?_, hname, rfl, ?_, ?_⟩
                    · unfold nq
                      rw [hfn]
                      show m = vq l.length ++ ((((sb (r2.take c.toNat)).size : Nat) : Int) :: tbs (sb (r2.take c.toNat))) ++ r2.drop c.toNat
                      rw [tbs_sb _ hbt, sb_size, List.length_take, Nat.min_eq_left (by omega), Int.toNat_of_nonneg hc.1, e1]
                      simp
                    · rw [hpl]; exact hN.snoc hname hfn
                    · rw [hpl]; simp
                  · cases hw
      · rename_i hne
        cases h
        have hlt : u < l.length := by omega
        have hS : nameS l (u : Int) = l[u] := by
          unfold nameS
          rw [if_pos (by omega)]
          simp [List.getD, hlt]
        rw [hS]
        obtain ⟨h1, h2⟩ := hN u l[u] (List.getElem?_eq_getElem hlt)
        refine ⟨?_, h1, ?_, hN, by omega⟩
        · unfold nq; rw [h2]; exact e1
        · unfold putL; rw [if_pos h1, h2]
end Go.Proofs.Ytmohehfkbhllpaa

namespace Go.Proofs.Ytmohehfkbhllpaa
open Go.RowKit Go.Maps

theorem nmb_lt : ∀ (f k a : Nat) (m : List Int) (u : Nat) (r : List Int), k + f = 9 → a < 2 ^ (7 * k) → Byt m → nmb (f + 1) k a m = .ok (u, r) → u < 18446744073709551616
  | f, k, a, [], u, r, hk, ha, hb, h => by simp [nmb] at h
  | f, k, a, c :: m, u, r, hk, ha, hb, h => by
    have hc := hb.head
    obtain ⟨c, rfl⟩ := Int.eq_ofNat_of_zero_le hc.1
    rw [nmb] at h
    split at h
    · cases h
    · rename_i hbad
      obtain ⟨-, h2, h3⟩ := orv7 a c k ha (by omega) (by omega) (fun e => by omega)
      split at h
      · cases h; exact h2
      · cases f with
        | zero => omega
        | succ f => exact nmb_lt f (k + 1) _ m u r (by omega) (h3 (by omega)) hb.tail h
theorem u_lt {m : List Int} {u : Nat} {r : List Int} (hb : Byt m) (h : nmb 10 0 0 m = .ok (u, r)) : u < 18446744073709551616 := nmb_lt 9 0 0 m u r rfl (by decide) hb h
/-- A part that was read of the bytes x ahead of m', its depth d; n, l: size and names ahead of it. -/
structure Gd (T : Tm) (m m' : List Int) (d : Int) (n n' : Nat) (l l' : List ByteArray) (R : Nat) : Prop where
  by_ : ∃ x, m = x ++ m' ∧ x ≠ [] ∧ WpOk T l x l'
  ok : okT Pw stepW T d n
  go : goT stepW T d n = .ok n'
  hgt : hgt T ≤ R
  le : n' ≤ 4096
  nm : OkN l'
  nl : l'.length ≤ n'
theorem Gd.byt {T : Tm} {m m' : List Int} {d : Int} {n n' : Nat} {l l' : List ByteArray} {R : Nat} (h : Gd T m m' d n n' l l' R) (hb : Byt m) : Byt m' := by
  obtain ⟨x, e, -⟩ := h.by_; rw [e] at hb; exact hb.right
theorem elq_good {p : List Int → Nat → List ByteArray → Except Int (Tm × List Int × Nat × List ByteArray)} {d : Int} {R : Nat}
    (hp : ∀ m n l T m' n' l', Byt m → OkN l → l.length ≤ n → p m n l = .ok (T, m', n', l') → Gd T m m' d n n' l l' R) :
    ∀ (u : Nat) (m : List Int) (n : Nat) (l : List ByteArray) (acc ts : List Tm) (m' : List Int) (n' : Nat) (l' : List ByteArray), Byt m → OkN l → l.length ≤ n → n ≤ 4096 → elq p u m n l acc = .ok (ts, m', n', l') →
      ∃ rs x, ts = acc ++ rs ∧ rs.length = u ∧ m = x ++ m' ∧ SeqOk rs l x l' ∧ okL Pw stepW rs d n ∧ goL stepW rs d n = .ok n' ∧ hgtL rs ≤ R ∧ n' ≤ 4096 ∧ OkN l' ∧ l'.length ≤ n'
  | 0, m, n, l, acc, ts, m', n', l', hb, hN, hl, hn, h => by
    simp only [elq, Except.ok.injEq, Prod.mk.injEq] at h
    obtain ⟨rfl, rfl, rfl, rfl⟩ := h
    exact ⟨[], [], by simp, rfl, rfl, ⟨rfl, rfl⟩, okL_nil, goL_nil, by simp [hgtL], hn, hN, hl⟩
  | u + 1, m, n, l, acc, ts, m', n', l', hb, hN, hl, hn, h => by
    rw [elq] at h
    split at h
    · cases h
    · rename_i T m1 n1 l1 hq
      have g := hp m n l T m1 n1 l1 hb hN hl hq
      obtain ⟨x1, e1, -, hw⟩ := g.by_
      obtain ⟨rs, x2, f1, f2, f3, f4, f5, f6, f7, f8, f9, f10⟩ := elq_good hp u m1 n1 l1 (acc ++ [T]) ts m' n' l' (g.byt hb) g.nm g.nl g.le h
      refine ⟨T :: rs, x1 ++ x2, by rw [f1]; simp, by simp [f2], by rw [e1, f3]; simp, ⟨x1, l1, x2, rfl, hw, f4⟩, ?_, ?_, ?_, f8, f9, f10⟩
      · rw [okL_cons]; refine ⟨g.ok, fun z hz => ?_⟩; rw [g.go] at hz; cases hz; exact f5
      · rw [goL_cons, g.go]; exact f6
      · rw [hgtL_cons]; have := g.hgt; omega
theorem leaf_gd {t : Lf} {bs : List Int} {m m' x : List Int} {d : Int} {n : Nat} {l l' : List ByteArray} {R : Nat} (hx : m = x ++ m') (hx0 : x ≠ []) (hw : WpOk (.mk t bs []) l x l') (hf : FaultOk (.mk t bs [])) (hd : d ≤ 24) (hn : n + 1 + bs.length ≤ 4096) (hR : 1 ≤ R) (hN : OkN l') (hl : l'.length ≤ n + 1 + bs.length) :
    Gd (.mk t bs []) m m' d n (n + 1 + bs.length) l l' R :=
  ⟨⟨x, hx, hx0, hw⟩, ⟨⟨hf, hd, hn⟩, fun _ _ => okL_nil⟩, goL_nil, by simp [hgt, hgtL]; omega, hn, hN, hl⟩
theorem knq_good {p : List Int → Nat → List ByteArray → Except Int (Tm × List Int × Nat × List ByteArray)} {d : Int} {R : Nat} (hd : d ≤ 24)
    (hp : ∀ m n l T m' n' l', Byt m → OkN l → l.length ≤ n → p m n l = .ok (T, m', n', l') → Gd T m m' (d + 1) n n' l l' R) (k : Int) (m : List Int) (n : Nat) (l : List ByteArray) (T : Tm) (m' : List Int) (n' : Nat) (l' : List ByteArray)
    (hb : Byt (k :: m)) (hN : OkN l) (hl : l.length ≤ n) (hn : n < 4096) (h : knq p k m (n + 1) l = .ok (T, m', n', l')) : Gd T (k :: m) m' d n n' l l' (R + 300) := by
  have hbm := hb.tail
  unfold knq at h
  split at h
  · rename_i hk
    subst hk
    split at h
    · cases h
    · rename_i u m1 hr
      split at h
      · rename_i hR
        cases h
        have e := num_vq hbm hr
        refine leaf_gd (bs := []) (x := 1 :: vq u) (by rw [e]; rfl) (by simp) ?_ (ok_int _ hR) hd (by simp; omega) (by omega) hN (by simp; omega)
        have := wp_int (unf (u : Int)) hR l
        rwa [fol_unf] at this
      · cases h
  · split at h
    · rename_i hk
      subst hk
      split at h
      · cases h
      · rename_i hlen
        split at h
        · rename_i hrp
          cases h
          simp only [Bool.and_eq_true] at hrp
          obtain ⟨e, b1, b2⟩ := cx_bq hbm hlen
          refine leaf_gd (bs := []) (x := 2 :: (bq 8 (be (m.take 8)) ++ bq 8 (be ((m.drop 8).take 8)))) ?_ (by simp) (wp_cx _ _ b1 b2 l) (ok_cx _ _ b1 b2 hrp.1 hrp.2) hd (by simp; omega) (by omega) hN (by simp; omega)
          rw [List.cons_append, ← e]
        · cases h
    · split at h
      · rename_i hk
        subst hk
        split at h
        · cases h
        · rename_i s m1 l1 hr
          cases h
          obtain ⟨e, hs, rfl, hN', hl'⟩ := nm_nq hbm hN (by omega) hr
          exact leaf_gd (bs := []) (x := 3 :: nq s l) (by rw [e]; rfl) (by simp) (wp_atom s hs l (by omega)) (atom_ok hs) hd (by simp; omega) (by omega) hN' (by simp; omega)
      · split at h
        · rename_i hk
          split at h
          · cases h
          · rename_i c t u m1 hr
            split at h
            · rename_i hid
              cases h
              unfold idq at hr
              split at hr
              · cases hr
              · rename_i c' r
                split at hr
                · cases hr
                · rename_i t' r2 hr1
                  split at hr
                  · cases hr
                  · rename_i ht
                    split at hr
                    · cases hr
                    · rename_i u' r3 hr2
                      cases hr
                      have e1 := num_vq hbm.tail hr1
                      have hb2 : Byt r2 := by have := hbm.tail; rw [e1] at this; exact this.right
                      have e2 := num_vq hb2 hr2
                      have hc := hbm.head
                      simp only [idOk, Bool.and_eq_true, decide_eq_true_eq] at hid
                      obtain ⟨i1, i2, i3, i4⟩ := hid
                      have hu := u_lt hb2 hr2
                      have hx : k :: c :: r = (k :: (c :: (vq t ++ vq u))) ++ m' := by rw [e1, e2]; simp
                      rcases hk with rfl | rfl
                      · have hw := wp_ref c (t : Int) (u : Int) (by omega) (by omega) (by omega) (by omega) (by omega) (by omega) l
                        exact leaf_gd (bs := []) hx (by simp) hw (ok_ref _ _ _ i1 i2 i3 i4) hd (by simp; omega) (by omega) hN (by simp; omega)
                      · have hw := wp_pid c (t : Int) (u : Int) (by omega) (by omega) (by omega) (by omega) (by omega) (by omega) l
                        exact leaf_gd (bs := []) hx (by simp) hw (ok_pid _ _ _ i1 i2 i3 i4) hd (by simp; omega) (by omega) hN (by simp; omega)
            · cases h
        · split at h
          · rename_i hk
            split at h
            · cases h
            · rename_i u m1 hr
              split at h
              · cases h
              · rename_i hu
                split at h
                · cases h
                · rename_i ts m2 n2 l2 he
                  cases h
                  have e1 := num_vq hbm hr
                  have hb1 : Byt m1 := by rw [e1] at hbm; exact hbm.right
                  obtain ⟨rs, x, f1, f2, f3, f4, f5, f6, f7, f8, f9, f10⟩ := elq_good hp u m1 (n + 1) l [] ts m' n' l' hb1 hN (by omega) (by omega) he
                  rw [List.nil_append] at f1
                  subst f1
                  have hx : k :: m = (k :: (vq ts.length ++ x)) ++ m' := by rw [f2, e1, f3]; simp
                  have hwk : WpOk (.mk { k := k } [] ts) l (k :: (vq ts.length ++ x)) l' ∧ FaultOk (.mk { k := k } [] ts) := by
                    rcases hk with rfl | rfl
                    · exact ⟨wp_tuple ts (by omega) l l' x f4, ok_tuple ts (by omega)⟩
                    · exact ⟨wp_list ts (by omega) l l' x f4, ok_list ts (by omega)⟩
                  refine ⟨⟨_, hx, by simp, hwk.1⟩, ⟨⟨hwk.2, hd, by simp [lenB]; omega⟩, fun z hz => ?_⟩, ?_, by simp [hgt]; omega, f8, f9, f10⟩
                  · cases hz; exact f5
                  · show goL stepW ts _ (n + 1 + 0) = _; exact f6
          · split at h
            · rename_i hk
              subst hk
              split at h
              · cases h
              · rename_i bs m1 n1 hr
                cases h
                unfold rwq at hr
                split at hr
                · cases hr
                · rename_i u r hr1
                  split at hr
                  · cases hr
                  · rename_i hu
                    split at hr
                    · cases hr
                    · rename_i hlen
                      cases hr
                      have e1 := num_vq hbm hr1
                      have hlt : (r.take u).length = u := by rw [List.length_take]; omega
                      have hx : (8 : Int) :: m = (8 :: (vq (r.take u).length ++ r.take u)) ++ r.drop u := by rw [hlt, e1]; simp
                      have hg := leaf_gd (bs := r.take u) (t := { k := 8 }) (n := n) hx (by simp) (wp_bytes (r.take u) (by omega) l) (ok_bytes _) hd (by omega) (show 1 ≤ R + 300 by omega) hN (by omega)
                      rw [hlt] at hg
                      exact hg
            · cases h
theorem ptq_good (r : Nat) : ∀ (m : List Int) (n : Nat) (l : List ByteArray) (T : Tm) (m' : List Int) (n' : Nat) (l' : List ByteArray), r ≤ 24 → Byt m → OkN l → l.length ≤ n → ptq r m n l = .ok (T, m', n', l') → Gd T m m' (25 - (r : Int)) n n' l l' (300 * r) := by
  induction r with
  | zero => intro m n l T m' n' l' hr hb hN hl h; simp [ptq] at h
  | succ r ih =>
    intro m n l T m' n' l' hr hb hN hl h
    simp only [ptq] at h
    split at h
    · cases h
    · rename_i hn
      split at h
      · cases h
      · rename_i k m
        refine knq_good (by omega) (fun m n l T m' n' l' hb hN hl h => ?_) k m n l T m' n' l' hb hN hl (by omega) h
        have := ih m n l T m' n' l' (by omega) hb hN hl h
        rwa [show (25 - ((r + 1 : Nat) : Int) + 1) = 25 - (r : Int) by omega]
/-- What Decode is to tell of bytes is right, and Encode of it lays just these bytes. -/
theorem decV_good {b : List Int} {T : Tm} (hb : Byt b) (h : decV b = .ok T) : b.length ≤ 131072 ∧ ∃ x n ns, b = 69 :: x ∧ WpOk T [] x ns ∧ okT Pw stepW T 1 0 ∧ goT stepW T 1 0 = .ok n ∧ hgt T ≤ 7200 := by
  unfold decV at h
  split at h
  · cases h
  · rename_i hlen
    split at h
    · cases h
    · rename_i c m
      split at h
      · rename_i hc
        subst hc
        split at h
        · cases h
        · rename_i T' m' n' l' hp
          have g := ptq_good 24 m 0 [] T' m' n' l' (Nat.le_refl _) hb.tail OkN.nil (by simp) hp
          unfold fin7 at h
          split at h
          · rename_i hm
            cases h
            subst hm
            obtain ⟨x, e, -, hw⟩ := g.by_
            rw [List.append_nil] at e
            subst e
            exact ⟨by omega, m, n', l', rfl, hw, g.ok, g.go, g.hgt⟩
          · cases h
      · cases h
end Go.Proofs.Ytmohehfkbhllpaa
