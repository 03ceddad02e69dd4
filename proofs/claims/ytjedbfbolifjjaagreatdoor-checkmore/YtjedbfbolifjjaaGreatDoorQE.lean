/-
  Two texts one behind the other, a blank between: what is scanned (pure).
  A program with one function more (pure).
  A text that is parsed, a blank, and one function more (pure).
-/
import Derived.Test.YtjedbfbolifjjaaGreatDoorO
import Derived.Test.YtjedbfbolifjjaaGreatDoorGN
import Derived.Test.YtjedbfbolifjjaaGreatDoorPZ
import Derived.Test.YtjedbfbolifjjaaGreatDoorMI
import Derived.Test.YtjedbfbolifjjaaGreatDoorHD
set_option linter.unusedVariables false
set_option linter.unusedSimpArgs false
namespace Go.Proofs.YtjedbfbolifjjaaGreatDoor
open Go.RowKit Go.Maps
/-- u is a, a blank, and b. -/
structure Jb (a b u : ByteArray) : Prop where
 size : u.size = a.size + 1 + b.size
 fst : ∀ k, k < a.size → pk u k = pk a k
 mid : pk u a.size = 32
 snd : ∀ k, pk u (a.size + 1 + k) = pk b k
theorem Jb.skp1 {a b u : ByteArray} (h : Jb a b u) (i : Nat) (n : Bool) (hi : i ≤ a.size) : ∃ n', skp u i n = if skp a i n < a.size then skp a i n else skp u a.size n' := by
 have hz := h.size
 fun_induction skp a i n with
 | case1 i n hlt h1 ih =>
  have e := h.fst i hlt
  rw [pk_lt_size hlt] at e
  rw [skp_def u i n (by omega), e, if_pos h1]; exact ih (by omega)
 | case2 i n hlt h1 h2 ih =>
  have e := h.fst i hlt
  rw [pk_lt_size hlt] at e
  rw [skp_def u i n (by omega), e, if_neg h1, if_pos h2]; exact ih (by omega)
 | case3 i n hlt h1 h2 h3 =>
  have e := h.fst i hlt
  rw [pk_lt_size hlt] at e
  rw [skp_def u i n (by omega), e, if_neg h1, if_neg h2, if_pos h3]
  exact ⟨false, by rw [if_pos hlt]⟩
 | case4 i n hlt h1 h2 h3 ih =>
  have e := h.fst i hlt
  rw [pk_lt_size hlt] at e
  rw [skp_def u i n (by omega), e, if_neg h1, if_neg h2, if_neg h3]; exact ih (by omega)
 | case5 i n hlt =>
  have : i = a.size := by omega
  subst this
  exact ⟨n, by rw [if_neg (by omega)]⟩
theorem Jb.skp2 {a b u : ByteArray} (h : Jb a b u) (i : Nat) (n : Bool) : skp u (a.size + 1 + i) n = a.size + 1 + skp b i n := by
 have hz := h.size
 fun_induction skp b i n with
 | case1 i n hlt h1 ih =>
  have e := h.snd i
  rw [pk_lt_size hlt] at e
  rw [skp_def u _ n (by omega), e, if_pos h1]; exact ih
 | case2 i n hlt h1 h2 ih =>
  have e := h.snd i
  rw [pk_lt_size hlt] at e
  rw [skp_def u _ n (by omega), e, if_neg h1, if_pos h2]; exact ih
 | case3 i n hlt h1 h2 h3 =>
  have e := h.snd i
  rw [pk_lt_size hlt] at e
  rw [skp_def u _ n (by omega), e, if_neg h1, if_neg h2, if_pos h3]
 | case4 i n hlt h1 h2 h3 ih =>
  have e := h.snd i
  rw [pk_lt_size hlt] at e
  rw [skp_def u _ n (by omega), e, if_neg h1, if_neg h2, if_neg h3]; exact ih
 | case5 i n hlt => exact skp_out _ _ _ (by omega)
/-- The first text's tokens. -/
theorem Jb.go1 {a b u : ByteArray} (h : Jb a b u) : ∀ (m i : Nat) (n : Bool) (l x : List Tok), a.size < m + i → i ≤ a.size → scb a i l = .ok x → ∃ n', scb u (if i < a.size then i else skp u a.size n) l = scb u (skp u a.size n') x
 | 0, i, n, l, x, hm, hi, hx => by omega
 | m + 1, i, n, l, x, hm, hi, hx => by
  have hz := h.size
  by_cases hlt : i < a.size
  ·
   obtain ⟨hl, t, j, ht, hx2⟩ := scb_ok hlt hx
   obtain ⟨o1, o2, o3, o4⟩ := tokV_ok hlt ht
   have hsh : Sh u i a i (j - i) := fun k hk => h.fst (i + k) (by omega)
   have hst : StpU (pk u (i + (j - i))) (pk a j) := by
    rw [show i + (j - i) = j by omega]
    by_cases hj : j < a.size
    · exact .inl (h.fst j hj)
    · have : j = a.size := by omega
      subst this
      exact .inr (.inl h.mid)
   have ht2 := tok_sh hlt ht hsh hst
   rw [show i + (j - i) = j by omega, show ({ t with at' := i } : Tok) = t by rw [← o3]] at ht2
   obtain ⟨n2, e2⟩ := h.skp1 j false o2
   rw [if_pos hlt, scb_tok (by omega) hl ht2, e2]
   exact h.go1 m (skp a j false) n2 (l ++ [t]) x (by have := skp_ge a j false; omega) (skp_le false o2) hx2
  · rw [if_neg hlt]
    rw [scb_end (by omega)] at hx
    cases hx; exact ⟨n, rfl⟩
theorem Jb.go2 {a b u : ByteArray} (h : Jb a b u) (x : List Tok) (y : List Tok) (hxy : x.length + y.length ≤ 4000) : ∀ (m i : Nat) (l : List Tok), b.size < m + i → i ≤ b.size → scb b i l = .ok y → scb u (a.size + 1 + i) (x ++ l.map (mv (a.size + 1))) = .ok (x ++ y.map (mv (a.size + 1)))
 | 0, i, l, hm, hi, hx => by omega
 | m + 1, i, l, hm, hi, hx => by
  have hz := h.size
  by_cases hlt : i < b.size
  ·
   obtain ⟨hl, t, j, ht, hx2⟩ := scb_ok hlt hx
   obtain ⟨o1, o2, o3, o4⟩ := tokV_ok hlt ht
   have hsh : Sh u (a.size + 1 + i) b i (j - i) := fun k hk => by rw [Nat.add_assoc]; exact h.snd (i + k)
   have hst : StpU (pk u (a.size + 1 + i + (j - i))) (pk b j) := .inl (by rw [show a.size + 1 + i + (j - i) = a.size + 1 + j by omega]; exact h.snd j)
   have ht2 := tok_sh hlt ht hsh hst
   rw [show a.size + 1 + i + (j - i) = a.size + 1 + j by omega] at ht2
   have hlen := scb_len hx2
   simp at hlen
   rw [scb_tok (by omega) (by simp; omega) ht2, h.skp2 j false]
   have := h.go2 x y hxy m (skp b j false) (l ++ [t]) (by have := skp_ge b j false; omega) (skp_le false o2) hx2
   rw [← this]
   congr 1
   simp [mv, o3]
  · rw [scb_end (by omega)] at hx
    cases hx
    exact scb_end (by omega)
theorem scb_full {s : ByteArray} {i : Nat} {l : List Tok} (h : i < s.size) (hl : l.length = 4000) : scb s i l = .error (i, 155) := by rw [scb, scn, if_pos h, if_pos hl]
theorem Jb.go3 {a b u : ByteArray} (h : Jb a b u) (x : List Tok) (y : List Tok) (hx : x.length ≤ 4000) (hxy : 4000 < x.length + y.length) : ∀ (m i : Nat) (l : List Tok), b.size < m + i → i ≤ b.size → x.length + l.length ≤ 4000 → scb b i l = .ok y → ∃ j, scb u (a.size + 1 + i) (x ++ l.map (mv (a.size + 1))) = .error (j, 155)
 | 0, i, l, hm, hi, hl0, hx => by omega
 | m + 1, i, l, hm, hi, hl0, hx => by
  have hz := h.size
  by_cases hlt : i < b.size
  ·
   by_cases hfull : x.length + l.length = 4000
   · exact ⟨_, scb_full (by omega) (by simp; omega)⟩
   ·
    obtain ⟨hl, t, j, ht, hx2⟩ := scb_ok hlt hx
    obtain ⟨o1, o2, o3, o4⟩ := tokV_ok hlt ht
    have hsh : Sh u (a.size + 1 + i) b i (j - i) := fun k hk => by rw [Nat.add_assoc]; exact h.snd (i + k)
    have hst : StpU (pk u (a.size + 1 + i + (j - i))) (pk b j) := .inl (by rw [show a.size + 1 + i + (j - i) = a.size + 1 + j by omega]; exact h.snd j)
    have ht2 := tok_sh hlt ht hsh hst
    rw [show a.size + 1 + i + (j - i) = a.size + 1 + j by omega] at ht2
    rw [scb_tok (by omega) (by simp; omega) ht2, h.skp2 j false]
    have := h.go3 x y (by omega) hxy m (skp b j false) (l ++ [t]) (by have := skp_ge b j false; omega) (skp_le false o2) (by simp; omega) hx2
    obtain ⟨j', hj'⟩ := this
    refine ⟨j', ?_⟩
    rw [← hj']
    congr 1
    simp [mv, o3]
  · rw [scb_end (by omega)] at hx
    cases hx
    omega
/-- A note that is open goes on to the end where no line ends. -/
theorem skp_note {u : ByteArray} : ∀ (m i : Nat), u.size ≤ m + i → i ≤ u.size → (∀ k, i ≤ k → k < u.size → pk u k ≠ 10) → skp u i true = u.size
 | 0, i, hm, hi, hk => by rw [skp_out _ _ _ (by omega)]; omega
 | m + 1, i, hm, hi, hk => by
  by_cases hlt : i < u.size
  · rw [skp_def u i true hlt, if_neg (hk i (Nat.le_refl _) hlt)]
    have ih := skp_note m (i + 1) (by omega) (by omega) (fun k h1 h2 => hk k (by omega) h2)
    by_cases h37 : pk u i = 37
    · rw [if_pos h37, ih]
    · rw [if_neg h37, if_neg (by simp), ih]
  · rw [skp_out _ _ _ (by omega)]; omega
/-- The tokens of both, or of the first alone (where a note is open at its end), or too many. -/
theorem joined_b {a b u : ByteArray} (h : Jb a b u) (hb : ∀ k, k < b.size → pk b k ≠ 10) (x y : List Tok) (hx : scanV a = .ok x) (hy : scanV b = .ok y) (hz : a.size + b.size + 1 ≤ 16384) :
 scanV u = .ok x ∨ (x.length + y.length ≤ 4000 ∧ scanV u = .ok (x ++ y.map (mv (a.size + 1)))) ∨ ∃ j, scanV u = .error (j, 155) := by
 have hs := h.size
 have hxl := (scanV_all hx).2
 rw [scanV_scb (by omega)] at hx hy ⊢
 obtain ⟨n1, e1⟩ := h.skp1 0 false (Nat.zero_le _)
 obtain ⟨n2, e2⟩ := h.go1 (a.size + 1) (skp a 0 false) n1 [] x (by omega) (skp_le false (Nat.zero_le _)) hx
 rw [e1, e2]
 cases n2 with
 | true =>
  left
  have e3 := skp_note (u := u) u.size a.size (by omega) (by omega) (fun k h1 h2 => by
   by_cases hk : k = a.size
   · rw [hk, h.mid]; decide
   · have := hb (k - (a.size + 1)) (by omega)
     rw [← h.snd (k - (a.size + 1)), show a.size + 1 + (k - (a.size + 1)) = k by omega] at this
     exact this)
  rw [e3, scb_end (Nat.le_refl _)]
 | false =>
  right
  have e3 : skp u a.size false = skp u (a.size + 1) false := by
   rw [skp_def u a.size false (by omega), h.mid, if_neg (by decide), if_neg (by decide), if_neg (by decide)]
  have e4 := h.skp2 0 false
  rw [Nat.add_zero] at e4
  rw [e3, e4]
  by_cases hl : x.length + y.length ≤ 4000
  · left
    have g := h.go2 x y hl (b.size + 1) (skp b 0 false) [] (by omega) (skp_le false (Nat.zero_le _)) hy
    exact ⟨hl, by simpa using g⟩
  · right
    have g := h.go3 x y hxl (by omega) (b.size + 1) (skp b 0 false) [] (by omega) (skp_le false (Nat.zero_le _)) (by simpa using hxl) hy
    simpa using g
end Go.Proofs.YtjedbfbolifjjaaGreatDoor

namespace Go.Proofs.YtjedbfbolifjjaaGreatDoor
open Go.RowKit Go.Maps
theorem if_zero {c : Bool} {x y : Int} (h : (if c = true then x else y) = 0) (hx : x ≠ 0) : c = false ∧ y = 0 := by
 cases c with
 | true => rw [if_pos rfl] at h; exact absurd h hx
 | false => rw [if_neg (by decide)] at h; exact ⟨rfl, h⟩
theorem chk_zero {l : List Tr} (h : chkV (.mk 18 e0 0 [] l) = 0) : crowdV (.mk 18 e0 0 [] l) = false ∧ (preL [Tr.mk 18 e0 0 [] l]).any misV = false ∧ (preL [Tr.mk 18 e0 0 [] l]).any overV = false ∧ (decide (((hdsL [] l).length : Int) < (l.length : Int)) = false ∧ (preL [Tr.mk 18 e0 0 [] l]).any ptV = false) ∧
 (preL [Tr.mk 18 e0 0 [] l]).any nbV = false ∧ (preL [Tr.mk 18 e0 0 [] l]).any pwV = false ∧ (preL [Tr.mk 18 e0 0 [] l]).any unbV = false ∧ (preL [Tr.mk 18 e0 0 [] l]).any (uncV (hdsL [] l)) = false ∧ (!inH (hdsL [] l) (mainB, 0)) = false := by
 unfold chkV at h
 dsimp only at h
 obtain ⟨h1, h⟩ := if_zero h (by decide)
 obtain ⟨h2, h⟩ := if_zero h (by decide)
 obtain ⟨h3, h⟩ := if_zero h (by decide)
 obtain ⟨h4, h⟩ := if_zero h (by decide)
 obtain ⟨h5, h⟩ := if_zero h (by decide)
 obtain ⟨h6, h⟩ := if_zero h (by decide)
 obtain ⟨h7, h⟩ := if_zero h (by decide)
 obtain ⟨h8, h⟩ := if_zero h (by decide)
 obtain ⟨h9, h⟩ := if_zero h (by decide)
 rw [Bool.or_eq_false_iff] at h2 h4
 exact ⟨h1, h2.2, h3, h4, h5, h6, h7, h8, h9⟩
abbrev tV (x : UInt8) : Tr := .mk 3 ⟨#[x]⟩ 0 [] []
abbrev zzN (j : Nat) : ByteArray := ⟨#[122, 122, 95, UInt8.ofNat (97 + j)]⟩
abbrev fT (nm : ByteArray) : Tr := .mk 17 nm 0 [] [tV 65, tV 66, tV 67, tB [tV 65]]
abbrev fL (nm : ByteArray) : List Tr := [fT nm, tV 65, tV 66, tV 67, tB [tV 65], tV 65]
theorem pre_f (nm : ByteArray) : preL [fT nm] = fL nm := by simp [preL_cons, preL_nil]
set_option maxRecDepth 100000 in
theorem f_mis : ∀ j : Fin 26, (fL (zzN j.1)).any misV = false ∧ (fL (zzN j.1)).any nbV = false := by decide +kernel
theorem f_pt (nm : ByteArray) : (fL nm).any ptV = false := by simp [ptV, twL]; decide +kernel
theorem f_pw (nm : ByteArray) : (fL nm).any pwV = false := by simp [pwV]
theorem f_unc (nm : ByteArray) (H : List (ByteArray × Int)) : (fL nm).any (uncV H) = false := by simp [uncV]
theorem f_over (nm : ByteArray) : (fL nm).any overV = false := by
 simp [overV, slotV, slL, preL_cons, preL_nil, goA, pst, putL, newN, inL]
theorem f_unb (nm : ByteArray) : (fL nm).any unbV = false := by
 simp [unbV, lk, putsT, putT, goA, pst, putL, newN, inL, aftV, preL_cons, preL_nil]
theorem pre_18 (l : List Tr) : preL [Tr.mk 18 e0 0 [] l] = Tr.mk 18 e0 0 [] l :: preL l := by rw [preL_cons, preL_nil, List.append_nil]
theorem any_more {l m : List Tr} (p : Tr → Bool) (h1 : p (.mk 18 e0 0 [] (l ++ m)) = false) (h2 : (preL [Tr.mk 18 e0 0 [] l]).any p = false) (h3 : (preL m).any p = false) : (preL [Tr.mk 18 e0 0 [] (l ++ m)]).any p = false := by
 rw [pre_18, List.any_cons, Bool.or_eq_false_iff] at h2
 rw [pre_18, List.any_cons, preL_app, List.any_append, h1, h2.2, h3]
 rfl
/-- Kids of a program of right shape are functions. -/
theorem prog_kids {l : List Tr} (h : (preL [Tr.mk 18 e0 0 [] l]).any misV = false) : l.all (isK 17) = true := by
 rw [pre_18, List.any_cons, Bool.or_eq_false_iff] at h
 have h1 := h.1
 unfold misV at h1
 rw [Bool.or_eq_false_iff, Bool.or_eq_false_iff] at h1
 have h2 := h1.1.2
 unfold partsV at h2
 simpa using h2
theorem mis_18 {l : List Tr} (h : l.all (isK 17) = true) : misV (.mk 18 e0 0 [] l) = false := by
 have h2 : partsV (.mk 18 e0 0 [] l) = true := by unfold partsV; simpa using h
 unfold misV
 rw [h2]
 simp [bareV, zB, zL, valV]
theorem over_18 {l : List Tr} (h : l.length ≤ 64) : overV (.mk 18 e0 0 [] l) = false := by
 unfold overV
 simp
 omega
theorem heads_nod {l : List Tr} : decide (((hdsL [] l).length : Int) < (l.length : Int)) = false ↔ (l.map hdT).Nodup := by
 have h1 := hdsL_len l []
 have h2 := hdsL_nod l []
 rw [List.length_nil, Nat.zero_add] at h1 h2
 rw [decide_eq_false_iff_not]
 constructor
 · intro h
   exact (h2.1 (by omega)).2
 · intro h
   have := h2.2 ⟨fun _ _ hh => by simp at hh, h⟩
   omega
theorem chk_of {l : List Tr} (h2 : (preL [Tr.mk 18 e0 0 [] l]).any misV = false) (h3 : (preL [Tr.mk 18 e0 0 [] l]).any overV = false) (h4 : decide (((hdsL [] l).length : Int) < (l.length : Int)) = false) (h5 : (preL [Tr.mk 18 e0 0 [] l]).any ptV = false)
 (h6 : (preL [Tr.mk 18 e0 0 [] l]).any nbV = false) (h7 : (preL [Tr.mk 18 e0 0 [] l]).any pwV = false) (h8 : (preL [Tr.mk 18 e0 0 [] l]).any unbV = false) (h9 : (preL [Tr.mk 18 e0 0 [] l]).any (uncV (hdsL [] l)) = false) (h10 : (!inH (hdsL [] l) (mainB, 0)) = false) :
 chkV (.mk 18 e0 0 [] l) = 0 ∨ chkV (.mk 18 e0 0 [] l) = 170 := by
 unfold chkV
 dsimp only
 rw [h2, h3, h4, h5, h6, h7, h8, h9, h10]
 cases crowdV (.mk 18 e0 0 [] l)
 · left; rfl
 · right; rfl
theorem pre_memr {l : List Tr} {T V : Tr} (hT : T ∈ l) (hV : V ∈ preL [T]) : V ∈ preL l := by
 obtain ⟨a, b, rfl⟩ := List.append_of_mem hT
 rw [preL_app]
 refine List.mem_append_right _ ?_
 rw [show T :: b = [T] ++ b from rfl, preL_app]
 exact List.mem_append_left _ hV
theorem chk_more {l : List Tr} {j : Nat} (hj : j < 26) (h : chkV (.mk 18 e0 0 [] l) = 0) (hl : l.length < 64) (hn : inL (nms ((preL [Tr.mk 18 e0 0 [] l]).take 4000)) (zzN j) = false) :
 chkV (.mk 18 e0 0 [] (l ++ [fT (zzN j)])) = 0 ∨ chkV (.mk 18 e0 0 [] (l ++ [fT (zzN j)])) = 170 := by
 obtain ⟨h1, h2, h3, ⟨h4, h5⟩, h6, h7, h8, h9, h10⟩ := chk_zero h
 have hk := prog_kids h2
 have hk' : (l ++ [fT (zzN j)]).all (isK 17) = true := by rw [List.all_append, hk]; rfl
 have hf := f_mis ⟨j, hj⟩
 have hnd := heads_nod.1 h4
 have hfew : (preL [Tr.mk 18 e0 0 [] l]).length ≤ 4000 := by simpa [crowdV] using h1
 rw [List.take_of_length_le hfew] at hn
 have hnew : (zzN j, (3 : Int)) ∉ l.map hdT := by
  intro hm
  obtain ⟨g, hg, e⟩ := List.mem_map.1 hm
  have hg17 := List.all_eq_true.1 hk g hg
  have hgp : g ∈ preL [Tr.mk 18 e0 0 [] l] := by
   rw [pre_18]
   refine List.mem_cons_of_mem _ ?_
   refine pre_memr hg ?_
   obtain ⟨k, s, n, b, q⟩ := g
   rw [preL_cons]; simp
  obtain ⟨k, s, n, b, q⟩ := g
  have hk17 : k = 17 := by simpa [isK] using hg17
  subst hk17
  have hs : s = zzN j := (Prod.mk.inj e).1
  have h2 := List.any_eq_false.1 hn s (List.mem_flatMap.2 ⟨_, hgp, List.mem_singleton.2 rfl⟩)
  rw [hs] at h2
  simp at h2
 have hmem : ∀ x, x ∈ hdsL [] l → x ∈ hdsL [] (l ++ [fT (zzN j)]) := fun x hx => by
  rw [hdsL_mem] at hx ⊢
  rcases hx with hx | hx
  · exact .inl hx
  · exact .inr (by rw [List.map_append]; exact List.mem_append_left _ hx)
 refine chk_of (any_more _ (mis_18 hk') h2 (by rw [pre_f]; exact hf.1)) (any_more _ (over_18 (by simp; omega)) h3 (by rw [pre_f]; exact f_over _)) (heads_nod.2 ?_) (any_more _ rfl h5 (by rw [pre_f]; exact f_pt _)) (any_more _ rfl h6 (by rw [pre_f]; exact hf.2)) (any_more _ rfl h7 (by rw [pre_f]; exact f_pw _)) (any_more _ rfl h8 (by rw [pre_f]; exact f_unb _)) (any_more _ rfl ?_ (by rw [pre_f]; exact f_unc _ _)) ?_
 · rw [List.map_append]
   refine List.nodup_append.2 ⟨hnd, by simp, fun x hx y hy => ?_⟩
   have : y = (zzN j, 3) := by simpa [hdT] using hy
   rw [this]
   exact fun e => hnew (e ▸ hx)
 ·
  rw [List.any_eq_false] at h9 ⊢
  intro U hU hu
  refine h9 U hU ?_
  obtain ⟨k, s, n, b, q⟩ := U
  unfold uncV at hu ⊢
  dsimp only at hu ⊢
  simp only [Bool.and_eq_true, Bool.not_eq_true'] at hu ⊢
  refine ⟨hu.1, ?_⟩
  rw [Bool.eq_false_iff] at hu ⊢
  exact fun hh => hu.2 (inH_iff.2 (hmem _ (inH_iff.1 hh)))
 · rw [Bool.not_eq_false'] at h10 ⊢
   exact inH_iff.2 (hmem _ (inH_iff.1 h10))
/-- A function that is there twice. -/
theorem chk_again {l : List Tr} {U : Tr} (hU : U ∈ l) (h : chkV (.mk 18 e0 0 [] l) = 0) (hl : l.length < 64) : chkV (.mk 18 e0 0 [] (l ++ [U])) = 171 ∨ chkV (.mk 18 e0 0 [] (l ++ [U])) = 170 := by
 obtain ⟨h1, h2, h3, ⟨h4, h5⟩, h6, h7, h8, h9, h10⟩ := chk_zero h
 have hk := prog_kids h2
 have hk' : (l ++ [U]).all (isK 17) = true := by
  rw [List.all_append, hk]
  have := List.all_eq_true.1 hk U hU
  simp [this]
 have hsub : ∀ p : Tr → Bool, (preL [Tr.mk 18 e0 0 [] l]).any p = false → (preL [U]).any p = false := fun p hp => by
  rw [pre_18, List.any_cons, Bool.or_eq_false_iff] at hp
  rw [List.any_eq_false] at hp ⊢
  intro V hV
  refine hp.2 V ?_
  exact pre_memr hU hV
 have hm := any_more (m := [U]) misV (mis_18 hk') h2 (hsub _ h2)
 have ho := any_more (m := [U]) overV (over_18 (by simp; omega)) h3 (hsub _ h3)
 have hd : decide (((hdsL [] (l ++ [U])).length : Int) < ((l ++ [U]).length : Int)) = true := by
  rw [← Bool.not_eq_false, heads_nod]
  intro hh
  rw [List.map_append, List.nodup_append] at hh
  exact hh.2.2 (hdT U) (List.mem_map_of_mem hU) (hdT U) (by simp) rfl
 unfold chkV
 dsimp only
 rw [hm, ho, hd]
 cases crowdV (.mk 18 e0 0 [] (l ++ [U]))
 · left; rfl
 · right; rfl
end Go.Proofs.YtjedbfbolifjjaaGreatDoor

namespace Go.Proofs.YtjedbfbolifjjaaGreatDoor
open Go.RowKit Go.Maps
theorem text_ok {s : ByteArray} {T : Tr} (h : textV s = .ok T) : ∃ l, scanV s = .ok l ∧ parseV (l.map tnOf) = .ok T := by
 unfold textV at h
 cases hv : scanV s with
 | error p => rw [hv] at h; cases h
 | ok l => rw [hv] at h; exact ⟨l, rfl, h⟩
theorem pk_app1 {ts us : List Tn} {p : Ps} (h : p.i < ts.length) : pkT (ts ++ us) p = pkT ts p := by
 unfold pkT
 rw [List.getElem?_append_left h]
theorem pk_app2 {ts us vs : List Tn} {p : Ps} (hu : ∀ i : Nat, Eqv (us[i]?.getD tn0) (vs[i]?.getD tn0)) : Eqv (pkT (ts ++ us) (p.sh ts.length)) (pkT vs p) := by
 unfold pkT
 by_cases he : p.e = 0
 · rw [if_pos he, if_pos (show (p.sh ts.length).e = 0 from he)]
   show Eqv ((ts ++ us)[ts.length + p.i]?.getD tn0) _
   rw [List.getElem?_append_right (by omega), show ts.length + p.i - ts.length = p.i by omega]
   exact hu p.i
 · rw [if_neg he, if_neg (show ¬ (p.sh ts.length).e = 0 from he)]
   exact Eqv.refl _
abbrev bT (j : Nat) : ByteArray := ⟨#[122, 122, 95, UInt8.ofNat (97 + j), 40, 65, 44, 32, 66, 44, 32, 67, 41, 32, 45, 62, 32, 65, 46]⟩
set_option maxRecDepth 100000 in
theorem rz0 : textV (bT 0) = .ok (.mk 18 e0 0 [] [fT (zzN 0)]) := by kernel_rfl
set_option maxRecDepth 100000 in
theorem rz1 : textV (bT 1) = .ok (.mk 18 e0 0 [] [fT (zzN 1)]) := by kernel_rfl
set_option maxRecDepth 100000 in
theorem rz2 : textV (bT 2) = .ok (.mk 18 e0 0 [] [fT (zzN 2)]) := by kernel_rfl
set_option maxRecDepth 100000 in
theorem rz3 : textV (bT 3) = .ok (.mk 18 e0 0 [] [fT (zzN 3)]) := by kernel_rfl
set_option maxRecDepth 100000 in
theorem rz4 : textV (bT 4) = .ok (.mk 18 e0 0 [] [fT (zzN 4)]) := by kernel_rfl
set_option maxRecDepth 100000 in
theorem rz5 : textV (bT 5) = .ok (.mk 18 e0 0 [] [fT (zzN 5)]) := by kernel_rfl
set_option maxRecDepth 100000 in
theorem rz6 : textV (bT 6) = .ok (.mk 18 e0 0 [] [fT (zzN 6)]) := by kernel_rfl
set_option maxRecDepth 100000 in
theorem rz7 : textV (bT 7) = .ok (.mk 18 e0 0 [] [fT (zzN 7)]) := by kernel_rfl
set_option maxRecDepth 100000 in
theorem rz8 : textV (bT 8) = .ok (.mk 18 e0 0 [] [fT (zzN 8)]) := by kernel_rfl
set_option maxRecDepth 100000 in
theorem rz9 : textV (bT 9) = .ok (.mk 18 e0 0 [] [fT (zzN 9)]) := by kernel_rfl
set_option maxRecDepth 100000 in
theorem rz10 : textV (bT 10) = .ok (.mk 18 e0 0 [] [fT (zzN 10)]) := by kernel_rfl
set_option maxRecDepth 100000 in
theorem rz11 : textV (bT 11) = .ok (.mk 18 e0 0 [] [fT (zzN 11)]) := by kernel_rfl
set_option maxRecDepth 100000 in
theorem rz12 : textV (bT 12) = .ok (.mk 18 e0 0 [] [fT (zzN 12)]) := by kernel_rfl
set_option maxRecDepth 100000 in
theorem rz13 : textV (bT 13) = .ok (.mk 18 e0 0 [] [fT (zzN 13)]) := by kernel_rfl
set_option maxRecDepth 100000 in
theorem rz14 : textV (bT 14) = .ok (.mk 18 e0 0 [] [fT (zzN 14)]) := by kernel_rfl
set_option maxRecDepth 100000 in
theorem rz15 : textV (bT 15) = .ok (.mk 18 e0 0 [] [fT (zzN 15)]) := by kernel_rfl
set_option maxRecDepth 100000 in
theorem rz16 : textV (bT 16) = .ok (.mk 18 e0 0 [] [fT (zzN 16)]) := by kernel_rfl
set_option maxRecDepth 100000 in
theorem rz17 : textV (bT 17) = .ok (.mk 18 e0 0 [] [fT (zzN 17)]) := by kernel_rfl
set_option maxRecDepth 100000 in
theorem rz18 : textV (bT 18) = .ok (.mk 18 e0 0 [] [fT (zzN 18)]) := by kernel_rfl
set_option maxRecDepth 100000 in
theorem rz19 : textV (bT 19) = .ok (.mk 18 e0 0 [] [fT (zzN 19)]) := by kernel_rfl
set_option maxRecDepth 100000 in
theorem rz20 : textV (bT 20) = .ok (.mk 18 e0 0 [] [fT (zzN 20)]) := by kernel_rfl
set_option maxRecDepth 100000 in
theorem rz21 : textV (bT 21) = .ok (.mk 18 e0 0 [] [fT (zzN 21)]) := by kernel_rfl
set_option maxRecDepth 100000 in
theorem rz22 : textV (bT 22) = .ok (.mk 18 e0 0 [] [fT (zzN 22)]) := by kernel_rfl
set_option maxRecDepth 100000 in
theorem rz23 : textV (bT 23) = .ok (.mk 18 e0 0 [] [fT (zzN 23)]) := by kernel_rfl
set_option maxRecDepth 100000 in
theorem rz24 : textV (bT 24) = .ok (.mk 18 e0 0 [] [fT (zzN 24)]) := by kernel_rfl
set_option maxRecDepth 100000 in
theorem rz25 : textV (bT 25) = .ok (.mk 18 e0 0 [] [fT (zzN 25)]) := by kernel_rfl
theorem rz : ∀ j : Nat, j < 26 → textV (bT j) = .ok (.mk 18 e0 0 [] [fT (zzN j)])
 | 0, _ => rz0
 | 1, _ => rz1
 | 2, _ => rz2
 | 3, _ => rz3
 | 4, _ => rz4
 | 5, _ => rz5
 | 6, _ => rz6
 | 7, _ => rz7
 | 8, _ => rz8
 | 9, _ => rz9
 | 10, _ => rz10
 | 11, _ => rz11
 | 12, _ => rz12
 | 13, _ => rz13
 | 14, _ => rz14
 | 15, _ => rz15
 | 16, _ => rz16
 | 17, _ => rz17
 | 18, _ => rz18
 | 19, _ => rz19
 | 20, _ => rz20
 | 21, _ => rz21
 | 22, _ => rz22
 | 23, _ => rz23
 | 24, _ => rz24
 | 25, _ => rz25
 | _ + 26, h => by omega
set_option maxRecDepth 100000 in
theorem bT_line : ∀ j : Fin 26, ∀ k : Fin 19, pk (bT j.1) k.1 ≠ 10 := by decide +kernel
theorem jb_mk (a b : ByteArray) : Jb a b (a ++ ⟨#[32]⟩ ++ b) := by
 have hsz : (a ++ ⟨#[32]⟩ ++ b).size = a.size + 1 + b.size := by simp [ByteArray.size_append]; rfl
 have hd : (a ++ ⟨#[32]⟩ ++ b).data = a.data ++ #[32] ++ b.data := by simp [ByteArray.data_append]
 refine ⟨hsz, fun k hk => ?_, ?_, fun k => ?_⟩
 · rw [pk_lt_size (by omega), pk_lt_size hk]
   unfold bt
   rw [hd, Array.append_assoc, Array.getElem?_append_left hk]
 ·
  rw [pk_lt_size (by omega)]
  unfold bt
  rw [hd, Array.append_assoc]
  show (((a.data ++ (#[32] ++ b.data))[a.data.size]?.getD 0).toNat : Int) = 32
  rw [Array.getElem?_append_right (Nat.le_refl _), Nat.sub_self, Array.getElem?_append_left (show 0 < (#[32] : Array UInt8).size from Nat.zero_lt_one)]
  rfl
 ·
  by_cases hk : k < b.size
  · rw [pk_lt_size (by omega), pk_lt_size hk]
    unfold bt
    rw [hd, Array.getElem?_append_right (by simp)]
    have : a.size + 1 + k - (a.data ++ #[32]).size = k := by simp
    rw [this]
  · rw [pk, if_neg (by omega), pk, if_neg hk]
theorem text_more {a : ByteArray} {T : Tr} {j : Nat} (hj : j < 26) (ha : textV a = .ok T) (hz : a.size ≤ 10000) :
 textV (a ++ ⟨#[32]⟩ ++ bT j) = .ok T ∨ (∃ l, T = .mk 18 e0 0 [] l ∧ textV (a ++ ⟨#[32]⟩ ++ bT j) = .ok (.mk 18 e0 0 [] (l ++ [fT (zzN j)]))) ∨ ∃ p, textV (a ++ ⟨#[32]⟩ ++ bT j) = .error p := by
 obtain ⟨x, hx, hp⟩ := text_ok ha
 obtain ⟨y, hy, hq⟩ := text_ok (rz j hj)
 have hjb := jb_mk a (bT j)
 have hbs : (bT j).size = 19 := rfl
 have hln : ∀ k, k < (bT j).size → pk (bT j) k ≠ 10 := fun k hk => bT_line ⟨j, hj⟩ ⟨k, by rw [hbs] at hk; exact hk⟩
 rcases joined_b hjb hln x y hx hy (by rw [hbs]; omega) with hsc | ⟨hl, hsc⟩ | ⟨i, hsc⟩
 · left
   rw [textV, hsc]
   exact hp
 ·
  right; left
  have e1 : (x ++ y.map (mv (a.size + 1))).map tnOf = x.map tnOf ++ (y.map (mv (a.size + 1))).map tnOf := List.map_append
  obtain ⟨l1, l2, h1, h2, h3⟩ := parse_join (ts1 := x.map tnOf) (ts2 := y.map tnOf) (ts' := x.map tnOf ++ (y.map (mv (a.size + 1))).map tnOf) (scanV_plain hx) (scanV_plain hy) hp hq
   (fun h0 => ⟨fun p hp => by rw [sh0, pk_app1 (by omega)]; exact Eqv.refl _, by simp⟩)
   ⟨fun p _ => pk_app2 (fun i => by
    rw [List.map_map, List.getElem?_map, List.getElem?_map]
    cases y[i]? with
    | none => exact Eqv.refl _
    | some t => exact ⟨rfl, rfl, rfl, rfl⟩), by simp⟩ (by simp)
  have h4 : l2 = [fT (zzN j)] := by injection h2 with _ _ _ _ e; exact e.symm
  subst h4
  refine ⟨l1, h1, ?_⟩
  rw [textV, hsc]
  show parseV ((x ++ y.map (mv (a.size + 1))).map tnOf) = _
  rw [e1, h3]
 · right; right
   rw [textV, hsc]
   exact ⟨_, rfl⟩
end Go.Proofs.YtjedbfbolifjjaaGreatDoor
