/-
  Parse tells a place among the tokens; tokens of Scan.
-/
import Derived.Test.YtbmbgnmkakkpfaaDoorGY
set_option linter.unusedVariables false
set_option linter.unusedSimpArgs false
namespace Go.Proofs.YtbmbgnmkakkpfaaDoor
open Go.RowKit Go.Maps
variable {x : Kx} {W W' : World} {pb : Nat} {p p' : Ps}
set_option maxRecDepth 100000 in
set_option maxHeartbeats 1600000 in
theorem parse_b (W : World) (ts : List Tn) (vs : List Value) (a : Option Addr) (c : Nat) (hrow : RowK (fun k => k < W.heap.size) W ts vs a c) (hbs : BsK (fun k => k < W.heap.size) W ts vs) (hc : ts.length ≤ c) (hm : ts.length ≤ 100000) (hS : ∀ t ∈ ts, t.s.size ≤ 140737488351232) (hB : ∀ t ∈ ts, t.b.length ≤ 200000) (hL : Lv W) (h4 : 4 < W.heap.size) :
    Calls Tryd.prog 13 #[.slice a ts.length c] W fun e w' => EndP W e w' (parseV ts) ∧ (progV ts (exun ts 41).1 ⟨0, 0, 0⟩).2.i ≤ ts.length := by
  have hpr := fun (x : Kx) (hx : x.ts = ts) w pb hp => prog_c (x := x) (W := w) (pb := pb) (p := ⟨0, 0, 0⟩) 0 (exun x.ts 41).1 (rules_ok 41 0 rfl (by decide)).1 (exun_err 41) hp rfl rfl rfl
  rw [parseV]
  generalize hpv : progV ts (exun ts 41).1 ⟨0, 0, 0⟩ = r
  obtain ⟨x, hx⟩ : ∃ x : Kx, x = { N := W.heap.size, ts := ts, vs := vs, a := a, c := c } := ⟨_, rfl⟩
  have hxt : x.ts = ts := by rw [hx]
  have hpr := hpr x hxt
  rw [hxt, hpv] at hpr
  have gx : Gr (fun _ => False) W ((W.alloc (.cells zc 25)).alloc (.cells #[.slice a ts.length c, .int .i64 0, .int .i64 0, .int .i64 0] 56)) := (Gr.alloc W _ _).trans (Gr.alloc _ _ _)
  have hxb : ((W.alloc (.cells zc 25)).alloc (.cells #[.slice a ts.length c, .int .i64 0, .int .i64 0, .int .i64 0] 56)).heap[W.heap.size]? = some (.cells zc 25 (0, 0)) := (Gr.alloc (W.alloc (.cells zc 25)) _ (fun _ => False)).keep (heap_alloc_new W (.cells zc 25)) (fun e => e)
  have hxp : ((W.alloc (.cells zc 25)).alloc (.cells #[.slice a ts.length c, .int .i64 0, .int .i64 0, .int .i64 0] 56)).heap[W.heap.size + 1]? = some (.cells #[.slice a ts.length c, .int .i64 0, .int .i64 0, .int .i64 0] 56 (0, 0)) := by
    have := heap_alloc_new (W.alloc (.cells zc 25)) (.cells #[.slice a ts.length c, .int .i64 0, .int .i64 0, .int .i64 0] 56)
    simpa using this
  have hsz : ((W.alloc (.cells zc 25)).alloc (.cells #[.slice a ts.length c, .int .i64 0, .int .i64 0, .int .i64 0] 56)).heap.size = W.heap.size + 2 := by simp
  generalize hW0 : (W.alloc (.cells zc 25)).alloc (.cells #[.slice a ts.length c, .int .i64 0, .int .i64 0, .int .i64 0] 56) = W0 at gx hxb hxp hsz
  have hT : Turn (fun k => k < W.heap.size) (fun k => k < W.heap.size) W W0 := fun k hk hl => ⟨hk, gx.block k hl (fun e => e)⟩
  have hP0 : Pz x W0 (W.heap.size + 1) ⟨0, 0, 0⟩ := by
    subst hx
    exact ⟨hxp, hrow.turn hT, hbs.turn hT, hL.gr gx (fun e => e) (fun e => e), h4, Nat.le_succ _, Nat.zero_le _, by decide, hc, hm, hS, hB⟩
  have hc0 := hpr W0 (W.heap.size + 1) hP0
  have hxN : x.N = W.heap.size := by rw [hx]
  have HW0 := Lib.hid hW0
  clear hpr hrow hbs hT hx hxp hpv hW0
  by_cases he : r.2.e = 0
  · have q : (r.2.e != 0) = false := by simp [he]
    rw [if_neg (by simp [he])]
    replace he := Lib.hid he
    go_enter Tryd.func13, Tryd.ntmps13
    go_wp2_with fail
    rw [show (W.alloc (.cells #[.int .i64 0, .string ⟨#[]⟩, .int .i64 0, .slice none 0 0, .slice none 0 0] 25)).alloc (.cells #[.slice a ts.length c, .int .i64 0, .int .i64 0, .int .i64 0] 56) = W0 from HW0.out]
    clear HW0
    obtain ⟨b, hbb⟩ : ∃ b, W.heap.size = b := ⟨_, rfl⟩
    obtain ⟨pb, hpb⟩ : ∃ u, W.heap.size + 1 = u := ⟨_, rfl⟩
    rw [hpb] at hc0 hP0 ⊢
    rw [hbb] at hxb ⊢
    have q1 : b < pb := by omega
    refine hc0.mono ?_
    rintro e w1 ⟨v, rfl, rep1, h1, g1⟩
    obtain ⟨tk, tt, tn, a1, n1, c1', a2, n2, c2', rfl⟩ := rep1.agg
    have hb1 := g1.keep hxb (by omega)
    have hs1 := g1.size
    have hbl := h1.lt
    obtain ⟨⟨c0, c1, c2, c3⟩, k0, k1, k2, k3⟩ := h1.facts
    obtain ⟨⟨m0, m1, m2, m3, m4⟩, f0, f1, f2, f3, f4⟩ := five_cells hb1
    have G2 := Gr.alloc w1 (.cells #[.int .i64 tk, .string tt, .int .i64 tn, .slice a1 n1 c1', .slice a2 n2 c2'] 25) (fun _ => False)
    have hn1 : w1.heap.size ≠ pb := by omega
    have hn2 : w1.heap.size ≠ b := by omega
    have hn3 : pb ≠ b := by omega
    have hbw : b < w1.heap.size := by omega
    have gW : Gr (fun _ => False) W w1 := (gx.trans' (S' := fun k => k = pb) g1 (fun k hk e => by omega))
    go_wp2_with fail
    have gs := set5_gr w1 b (.int .i64 tk) (.string tt) (.int .i64 tn) (.slice a1 n1 c1') (.slice a2 n2 c2')
    have hf := set5_heap hb1 (.int .i64 tk) (.string tt) (.int .i64 tn) (.slice a1 n1 c1') (.slice a2 n2 c2')
    have gF := Gr.alloc (set5 w1 b (.int .i64 tk) (.string tt) (.int .i64 tn) (.slice a1 n1 c1') (.slice a2 n2 c2')) (.cells #[.int .i64 tk, .string tt, .int .i64 tn, .slice a1 n1 c1', .slice a2 n2 c2'] 25) (fun _ => False)
    have gE : Gr (fun _ => False) W (set5 w1 b (.int .i64 tk) (.string tt) (.int .i64 tn) (.slice a1 n1 c1') (.slice a2 n2 c2')) := gW.trans' gs (fun k hk e => by omega)
    have rep := (((rep1.mono (base' := b + 1) (by omega)).gr gs (fun k hk e => by omega)).mono (base' := W.heap.size) (by omega)).g0 gF
    clear m0 m1 m2 m3 m4
    obtain ⟨⟨m0, m1, m2, m3, m4⟩, _⟩ := five_cells (gF.keep hf (fun e => e))
    exact bodyPost_ret (v := .tuple #[trv tk tt tn (.slice a1 n1 c1') (.slice a2 n2 c2'), .int .i64 0, .int .i64 0]) (by simp [results, Tryd.results13, go_sem, m0, m1, m2, m3, m4]) rfl ⟨⟨_, rfl, rep, gE.trans gF⟩, by rw [← hxt]; exact h1.hi⟩
  · have q : (r.2.e != 0) = true := by simp [he]
    rw [if_pos he]
    replace he := Lib.hid he
    go_enter Tryd.func13, Tryd.ntmps13
    go_wp2_with fail
    rw [show (W.alloc (.cells #[.int .i64 0, .string ⟨#[]⟩, .int .i64 0, .slice none 0 0, .slice none 0 0] 25)).alloc (.cells #[.slice a ts.length c, .int .i64 0, .int .i64 0, .int .i64 0] 56) = W0 from HW0.out]
    clear HW0
    obtain ⟨b, hbb⟩ : ∃ b, W.heap.size = b := ⟨_, rfl⟩
    obtain ⟨pb, hpb⟩ : ∃ u, W.heap.size + 1 = u := ⟨_, rfl⟩
    rw [hpb] at hc0 hP0 ⊢
    rw [hbb] at hxb ⊢
    have q1 : b < pb := by omega
    refine hc0.mono ?_
    rintro e w1 ⟨v, rfl, rep1, h1, g1⟩
    obtain ⟨tk, tt, tn, a1, n1, c1', a2, n2, c2', rfl⟩ := rep1.agg
    have hb1 := g1.keep hxb (by omega)
    have hs1 := g1.size
    have hbl := h1.lt
    obtain ⟨⟨c0, c1, c2, c3⟩, k0, k1, k2, k3⟩ := h1.facts
    obtain ⟨⟨m0, m1, m2, m3, m4⟩, f0, f1, f2, f3, f4⟩ := five_cells hb1
    have G2 := Gr.alloc w1 (.cells #[.int .i64 tk, .string tt, .int .i64 tn, .slice a1 n1 c1', .slice a2 n2 c2'] 25) (fun _ => False)
    have hn1 : w1.heap.size ≠ pb := by omega
    have hn2 : w1.heap.size ≠ b := by omega
    have hn3 : pb ≠ b := by omega
    have hbw : b < w1.heap.size := by omega
    have gW : Gr (fun _ => False) W w1 := (gx.trans' (S' := fun k => k = pb) g1 (fun k hk e => by omega))
    go_wp2_with fail
    go_region
    go_wp2_with fail
    have gs := set5_gr w1 b (.int .i64 0) (.string e0) (.int .i64 0) nl nl
    have hf := set5_heap hb1 (.int .i64 0) (.string e0) (.int .i64 0) nl nl
    have gF := (Gr.alloc (set5 w1 b (.int .i64 0) (.string e0) (.int .i64 0) nl nl) (.cells #[.int .i64 tk, .string tt, .int .i64 tn, .slice a1 n1 c1', .slice a2 n2 c2'] 25) (fun _ => False)).trans (Gr.drew _ _)
    have gE : Gr (fun _ => False) W (set5 w1 b (.int .i64 0) (.string e0) (.int .i64 0) nl nl) := gW.trans' gs (fun k hk e => by omega)
    clear m0 m1 m2 m3 m4
    obtain ⟨⟨m0, m1, m2, m3, m4⟩, _⟩ := five_cells ((Gr.alloc (set5 w1 b (.int .i64 0) (.string e0) (.int .i64 0) nl nl) (.cells #[.int .i64 tk, .string tt, .int .i64 tn, .slice a1 n1 c1', .slice a2 n2 c2'] 25) (fun _ => False)).keep hf (fun e => e))
    exact bodyPost_ret (v := .tuple #[tr0v, .int .i64 (r.2.i : Int), .int .i64 r.2.e]) (by simp [results, Tryd.results13, go_sem, m0, m1, m2, m3, m4]) rfl ⟨⟨rfl, gE.trans gF⟩, by rw [← hxt]; exact h1.hi⟩
theorem parseT_b (W : World) (base : Nat) (s : ByteArray) (l : List Tok) (vs : List Value) (a : Option Addr) (c : Nat) (hs : scanV s = .ok l) (h : Toks W base (.slice a l.length c) l vs) (hL : Lv W) (h4 : 4 < W.heap.size) :
    Calls Tryd.prog 13 #[.slice a l.length c] W fun e w' => EndP W e w' (parseV (l.map tnOf)) ∧ (progV (l.map tnOf) (exun (l.map tnOf) 41).1 ⟨0, 0, 0⟩).2.i ≤ (l.map tnOf).length := by
  obtain ⟨h1, h2⟩ := scanV_all hs
  have := parse_b W (l.map tnOf) vs a c h.rowk.1 h.2.bsk h.rowk.2 (by rw [List.length_map]; omega)
    (fun t ht => by obtain ⟨u, hu, rfl⟩ := List.mem_map.1 ht; have : u.s.size ≤ 60 := (h1 u hu).1; show u.s.size ≤ _; omega)
    (fun t ht => by obtain ⟨u, hu, rfl⟩ := List.mem_map.1 ht; have : u.b.length ≤ 16384 := (h1 u hu).2; show u.b.length ≤ _; omega) hL h4
  rw [List.length_map] at this ⊢
  exact this
/-- Only bytes have bytes. -/
theorem tokV_plain {s : ByteArray} {i j : Nat} {t : Tok} (h : tokV s i = .ok (t, j)) : t.k ≠ 4 → t.b = [] := by
  unfold tokV at h
  split at h
  · split at h
    · cases h
    · cases h; exact fun _ => rfl
  · split at h
    · split at h
      · cases h
      · cases h; exact fun e => absurd rfl e
    · split at h
      · split at h
        · cases h
        · cases h; exact fun _ => rfl
      · split at h
        · cases h
        · cases h; exact fun _ => rfl
theorem scn_plain {s : ByteArray} : ∀ (f i : Nat) (ts l : List Tok), scn s f i ts = .ok l → (∀ t ∈ ts, t.k ≠ 4 → t.b = []) → ∀ t ∈ l, t.k ≠ 4 → t.b = []
  | 0, i, ts, l, h, h1 => by simp [scn] at h; subst h; exact h1
  | f + 1, i, ts, l, h, h1 => by
    rw [scn] at h
    split at h
    · split at h
      · cases h
      · cases ht : tokV s i with
        | error c => rw [ht] at h; cases h
        | ok v =>
          obtain ⟨t, j⟩ := v
          rw [ht] at h
          refine scn_plain f _ _ l h (fun u hu => ?_)
          rcases List.mem_append.1 hu with hu | hu
          · exact h1 u hu
          · rw [List.mem_singleton] at hu; subst hu; exact tokV_plain ht
    · cases h; exact h1
theorem scanV_plain {s : ByteArray} {l : List Tok} (h : scanV s = .ok l) : Plain (l.map tnOf) := by
  intro t ht
  obtain ⟨u, hu, rfl⟩ := List.mem_map.1 ht
  unfold scanV at h
  split at h
  · cases h
  · exact scn_plain _ _ _ _ h (fun t ht => by cases ht) u hu
/-! ### What is told of names, numbers, bytes -/
def nmK (t : Tn) : List ByteArray := if t.k = 2 ∨ t.k = 3 then [t.s] else []
def inK (t : Tn) : List Int := if t.k = 1 then [t.n] else []
def inT : Tr → List Int
  | .mk k _ n _ _ => if k = 1 then [n] else []
def byT : Tr → List Int
  | .mk _ _ _ b _ => b
def pick1 (i : It) : List ByteArray := if i.t = 1 then [i.s] else []
def pick2 (i : It) : List Int := if i.t = 2 then [i.n] else []
theorem p1T (T : Tr) : (itT T).flatMap pick1 = nmOf T := by
  cases T with
  | mk k s n b l =>
    simp only [itT, nmOf, itB, List.flatMap_append]
    split <;> split <;> split <;> simp [pick1]
theorem p2T (T : Tr) : (itT T).flatMap pick2 = inT T := by
  cases T with
  | mk k s n b l =>
    simp only [itT, inT, itB, List.flatMap_append]
    split <;> split <;> split <;> simp [pick2]
theorem p3T (T : Tr) : (itT T).flatMap (·.b) = byT T := by
  cases T with
  | mk k s n b l =>
    simp only [itT, byT, itB, List.flatMap_append]
    split <;> split <;> split <;> simp_all
theorem p1K (t : Tn) : (itK t).flatMap pick1 = nmK t := by
  simp only [itK, nmK, itB, List.flatMap_append]
  split <;> split <;> split <;> simp [pick1]
theorem p2K (t : Tn) : (itK t).flatMap pick2 = inK t := by
  simp only [itK, inK, itB, List.flatMap_append]
  split <;> split <;> split <;> simp [pick2]
theorem p3K (t : Tn) : (itK t).flatMap (·.b) = t.b := by
  simp only [itK, itB, List.flatMap_append]
  split <;> split <;> split <;> simp_all
theorem yields_all {ts : List Tn} {T : Tr} (h : yl [T] = yk ts 0 ts.length) : nms (preL [T]) = ts.flatMap nmK ∧ (preL [T]).flatMap inT = ts.flatMap inK ∧ (preL [T]).flatMap byT = ts.flatMap (·.b) := by
  have e : (preL [T]).flatMap itT = ts.flatMap itK := by
    have : yk ts 0 ts.length = ts.flatMap itK := by unfold yk; rw [List.drop_zero, Nat.sub_zero, List.take_length]
    rw [← this, ← h]; rfl
  have f1 : ∀ {α β γ : Type} (l : List α) (f : α → List β) (g : β → List γ), (l.flatMap f).flatMap g = l.flatMap (fun a => (f a).flatMap g) := fun l f g => List.flatMap_assoc
  refine ⟨?_, ?_, ?_⟩
  · have := congrArg (List.flatMap pick1) e
    rw [f1, f1] at this
    simp only [p1T, p1K] at this
    exact this
  · have := congrArg (List.flatMap pick2) e
    rw [f1, f1] at this
    simp only [p2T, p2K] at this
    exact this
  · have := congrArg (List.flatMap (·.b)) e
    rw [f1, f1] at this
    simp only [p3T, p3K] at this
    exact this
end Go.Proofs.YtbmbgnmkakkpfaaDoor
