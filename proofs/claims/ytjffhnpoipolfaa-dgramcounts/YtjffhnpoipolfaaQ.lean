/-
  do of a net: every call's outcome.
-/
import Derived.Test.YtjffhnpoipolfaaN
set_option linter.unusedVariables false
set_option linter.unusedSimpArgs false
namespace Go.Proofs.Ytjffhnpoipolfaa
open Go.RowKit Go.Maps Go.WideMaps
variable {S S' : Nat → Prop} {W W1 W' : World}

def d0 : Dv := ⟨0, 0, 0, none, 0, 0, false⟩
def dvOf (d : Dg) : Dv := ⟨d.f, d.t, (d.n : Int), some ⟨d.bk, 0, none⟩, d.by'.length, d.by'.length, d.sp⟩
/-- Why a call is refused. -/
def Bad (s : Ns) (k f t i a : Int) (l : List Nat) (c : Int) : Prop :=
  (k = 0 ∧ may f t s.nodes = false ∧ c = 90) ∨ (k = 0 ∧ may f t s.nodes = true ∧ 1212 < l.length ∧ c = 91) ∨ ((k = 1 ∨ k = 2 ∨ k = 3 ∨ k = 4) ∧ ref i (s.q none).length = 92 ∧ c = 92) ∨
  (k = 4 ∧ c = 94 ∧ ∃ n D, i = ((n : Nat) : Int) ∧ (s.q none)[n]? = some D ∧ D.sp = true) ∨ (k = 4 ∧ c = 93 ∧ ∃ n D, i = ((n : Nat) : Int) ∧ (s.q none)[n]? = some D ∧ D.sp = false ∧ (a < 0 ∨ (D.by'.length : Int) ≤ a)) ∨ ((k = 5 ∨ k = 6) ∧ nod f s.nodes = false ∧ c = 90)
/-- What a call does that is not refused and takes nothing. -/
def Good (s s' : Ns) (k f t i a : Int) (m : Nat) (l : List Nat) : Prop :=
  (k = 0 ∧ may f t s.nodes = true ∧ l.length ≤ 1212 ∧ s'.sent = s.sent + 1 ∧ Put s s' f t (s.sent + 1) l false) ∨
  (s'.sent = s.sent ∧ (
    (k = 1 ∧ ∃ n D, i = ((n : Nat) : Int) ∧ (s.q none)[n]? = some D ∧ Came s s' n D) ∨
    (k = 2 ∧ ∃ n D, i = ((n : Nat) : Int) ∧ (s.q none)[n]? = some D ∧ s'.lost = s.lost + 1 ∧ s'.q = upd s.q none ((s.q none).eraseIdx n)) ∨
    (k = 3 ∧ ∃ n D, i = ((n : Nat) : Int) ∧ (s.q none)[n]? = some D ∧ Put s s' D.f D.t D.n D.by' D.sp) ∨
    (k = 4 ∧ ∃ n D j, i = ((n : Nat) : Int) ∧ (s.q none)[n]? = some D ∧ D.sp = false ∧ a = ((j : Nat) : Int) ∧ j < D.by'.length ∧ s'.lost = s.lost ∧ s'.q = upd s.q none ((s.q none).set n (D.spoil j m))) ∨
    (k = 5 ∧ nod f s.nodes = true ∧ s.q (some f) = [] ∧ s' = s) ∨
    (k = 6 ∧ nod f s.nodes = true ∧ s'.lost = s.lost + (s.q (some f)).length ∧ s'.q = upd s.q (some f) [])))
def Outc (s s' : Ns) (k f t i a : Int) (m : Nat) (l : List Nat) (d : Dv) (ok : Bool) (c : Int) : Prop :=
  (d = d0 ∧ ok = false ∧ s' = s ∧ Bad s k f t i a l c) ∨ (d = d0 ∧ ok = false ∧ c = 0 ∧ Good s s' k f t i a m l) ∨
  (k = 5 ∧ ok = true ∧ c = 0 ∧ nod f s.nodes = true ∧ s'.sent = s.sent ∧ s'.lost = s.lost ∧ ∃ D r, s.q (some f) = D :: r ∧ d = dvOf D ∧ s'.q = upd s.q (some f) r)
theorem nx_refl {s : Ns} (h : Nt W' s) (g : G0 W W') : Nx W s W' s := ⟨h, rfl, rfl, by omega, g.of0, fun k hk => .inl hk⟩
/-- Behind do. -/
theorem do_end {s s' : Ns} (h : Nt W s) {w1 w2 : World} (g0 : G0 W W1) (hx : Nx W1 s w1 s') (g : Gr (fun j => W.heap.size ≤ j ∧ j < W1.heap.size) w1 w2) : Nx W s w2 s' ∧ ∀ k, ¬ (W.heap.size ≤ k ∧ k < W1.heap.size) → k < w1.heap.size → w2.heap[k]? = w1.heap[k]? := by
  have hf : ∀ k, Fp s' k → Fp s k ∨ W1.heap.size ≤ k := fun k hk => by
    rcases hx.fp k hk with e | e | e
    · exact .inl e
    · exact .inr e
    · exact e.elim
  refine ⟨⟨hx.nt.gr g (fun k hk e => ?_), hx.p, hx.nodes, hx.z, ?_, fun k hk => ?_⟩, fun k hk hl => g.block k hl hk⟩
  · rcases hf k hk with e1 | e1
    · have := h.lt e1; omega
    · omega
  · exact ((g0.of0 : Gr (Fp s) W W1).trans hx.gr).trans' g (fun i hi e => by omega)
  · rcases hf k hk with e1 | e1
    · exact .inl e1
    · have := g0.size; exact .inr (.inl (by omega))
def MS (s : Ns) (Φ : Ns → Int → Prop) : World → World → Int → Prop := fun W1 w c => ∃ s', Nx W1 s w s' ∧ Φ s' c
theorem letsM {s : Ns} (h : Nt W s) (Φ : Ns → Int → Prop) : Lets W W (MS s Φ) := fun W1 w c hg hs ⟨s', hx, _⟩ => ⟨hx.gr.size, fun j h1 hj => hx.gr.block j (by omega) (fun e => by have := h.lt e; omega)⟩
theorem letsMS {s : Ns} (h : Nt W s) (Φ : Ns → Int → Prop) : LetsS W (MS s Φ) := fun W1 w c hg ⟨s', hx, _⟩ => ⟨hx.gr.size, fun j h1 hj => hx.gr.block j hj (fun e => by have := h.lt e; omega)⟩
/-- How do ends. -/
def Ends (W : World) (s : Ns) (k f t i a : Int) (m : Nat) (l : List Nat) (e : Ending) (w' : World) : Prop :=
  ∃ s' d ok c, e = .returned (.tuple #[Dv.v d, .bool ok, .int .i64 c]) ∧ Nx W s w' s' ∧ Outc s s' k f t i a m l d ok c ∧ (ok = true → ∀ D r, s.q (some f) = D :: r → w'.heap[D.bk]? = some (.cells (bs D.by').toArray 5 (0, 0)) ∧ ¬ Fp s' D.bk)
theorem did_end {s : Ns} (h : Nt W s) {k f t i a : Int} {m : Nat} {l : List Nat} {e : Ending} {w' : World} (hd : Did W (MS s (fun s' c => Outc s s' k f t i a m l d0 false c)) e w') : Ends W s k f t i a m l e w' := by
  obtain ⟨c, W1, w1, rfl, h1, h2, ⟨s', hx, ho⟩, h4⟩ := hd
  rw [← h2] at h4
  exact ⟨s', d0, false, c, rfl, (do_end h h1 hx h4).1, ho, fun e => by cases e⟩
theorem ref_cases (s : Ns) (i : Int) : ref i (s.q none).length = 92 ∨ ∃ n D, i = ((n : Nat) : Int) ∧ (s.q none)[n]? = some D := by
  unfold ref
  by_cases h : i < 0 ∨ ((s.q none).length : Int) ≤ i
  · left; rw [if_pos h]
  · right
    obtain ⟨n, rfl⟩ := Int.eq_ofNat_of_zero_le (show 0 ≤ i by omega)
    exact ⟨n, _, rfl, List.getElem?_eq_getElem (by omega)⟩
theorem deliver_all {s : Ns} (h : Nt W s) (hz : s.z ≤ 100000000) (f t i a : Int) (m : Nat) (l : List Nat) (W1 : World) (g : G0 W W1) : Calls Try.prog 23 #[pt s.p, .int .i64 i] W1 fun e w' => ∃ c, e = .returned (.int .i64 c) ∧ MS s (fun s' c => Outc s s' 1 f t i a m l d0 false c) W1 w' c := by
  rcases ref_cases s i with hr | ⟨n, D, rfl, hD⟩
  · refine (deliver_no W1 s (h.g0 g) i hr).mono ?_
    rintro e w ⟨rfl, rfl⟩
    exact ⟨92, rfl, s, nx_refl (h.g0 g) (Gr.refl _ _), .inl ⟨rfl, rfl, rfl, .inr (.inr (.inl ⟨.inl rfl, hr, rfl⟩))⟩⟩
  · refine (deliver_c W1 s (h.g0 g) hz n D hD).mono ?_
    rintro e w ⟨rfl, s', hx, h1, h2⟩
    exact ⟨0, rfl, s', hx, .inr (.inl ⟨rfl, rfl, rfl, .inr ⟨h1, .inl ⟨rfl, n, D, rfl, hD, h2⟩⟩⟩)⟩
theorem drop_all {s : Ns} (h : Nt W s) (hz : s.z ≤ 100000000) (f t i a : Int) (m : Nat) (l : List Nat) (W1 : World) (g : G0 W W1) : Calls Try.prog 25 #[pt s.p, .int .i64 i] W1 fun e w' => ∃ c, e = .returned (.int .i64 c) ∧ MS s (fun s' c => Outc s s' 2 f t i a m l d0 false c) W1 w' c := by
  rcases ref_cases s i with hr | ⟨n, D, rfl, hD⟩
  · refine (drop_no W1 s (h.g0 g) i hr).mono ?_
    rintro e w ⟨rfl, rfl⟩
    exact ⟨92, rfl, s, nx_refl (h.g0 g) (Gr.refl _ _), .inl ⟨rfl, rfl, rfl, .inr (.inr (.inl ⟨.inr (.inl rfl), hr, rfl⟩))⟩⟩
  · refine (drop_c W1 s (h.g0 g) hz n D hD).mono ?_
    rintro e w ⟨rfl, s', hx, h1, h2, h3⟩
    exact ⟨0, rfl, s', hx, .inr (.inl ⟨rfl, rfl, rfl, .inr ⟨h1, .inr (.inl ⟨rfl, n, D, rfl, hD, h2, h3⟩)⟩⟩)⟩
theorem twin_all {s : Ns} (h : Nt W s) (hz : s.z ≤ 100000000) (f t i a : Int) (m : Nat) (l : List Nat) (W1 : World) (g : G0 W W1) : Calls Try.prog 22 #[pt s.p, .int .i64 i] W1 fun e w' => ∃ c, e = .returned (.int .i64 c) ∧ MS s (fun s' c => Outc s s' 3 f t i a m l d0 false c) W1 w' c := by
  rcases ref_cases s i with hr | ⟨n, D, rfl, hD⟩
  · refine (twin_no W1 s (h.g0 g) i hr).mono ?_
    rintro e w ⟨rfl, rfl⟩
    exact ⟨92, rfl, s, nx_refl (h.g0 g) (Gr.refl _ _), .inl ⟨rfl, rfl, rfl, .inr (.inr (.inl ⟨.inr (.inr (.inl rfl)), hr, rfl⟩))⟩⟩
  · refine (twin_c W1 s (h.g0 g) hz n D hD).mono ?_
    rintro e w ⟨rfl, s', hx, h1, h2⟩
    exact ⟨0, rfl, s', hx, .inr (.inl ⟨rfl, rfl, rfl, .inr ⟨h1, .inr (.inr (.inl ⟨rfl, n, D, rfl, hD, h2⟩))⟩⟩)⟩
theorem spoil_all {s : Ns} (h : Nt W s) (f t i a : Int) (m : Nat) (hm : m < 4294967296) (l : List Nat) (W1 : World) (g : G0 W W1) : Calls Try.prog 26 #[pt s.p, .int .i64 i, .int .i64 a, .int .u32 (m : Int)] W1 fun e w' => ∃ c, e = .returned (.int .i64 c) ∧ MS s (fun s' c => Outc s s' 4 f t i a m l d0 false c) W1 w' c := by
  rcases ref_cases s i with hr | ⟨n, D, rfl, hD⟩
  · refine (spoil_no W1 s (h.g0 g) i a m hr).mono ?_
    rintro e w ⟨rfl, rfl⟩
    exact ⟨92, rfl, s, nx_refl (h.g0 g) (Gr.refl _ _), .inl ⟨rfl, rfl, rfl, .inr (.inr (.inl ⟨.inr (.inr (.inr rfl)), hr, rfl⟩))⟩⟩
  rcases hsp : D.sp with _ | _
  · by_cases ha : a < 0 ∨ (D.by'.length : Int) ≤ a
    · refine (spoil_place W1 s (h.g0 g) n a m D hD hsp ha).mono ?_
      rintro e w ⟨rfl, rfl⟩
      exact ⟨93, rfl, s, nx_refl (h.g0 g) (Gr.refl _ _), .inl ⟨rfl, rfl, rfl, .inr (.inr (.inr (.inr (.inl ⟨rfl, rfl, n, D, rfl, hD, hsp, ha⟩))))⟩⟩
    · obtain ⟨j, rfl⟩ := Int.eq_ofNat_of_zero_le (show 0 ≤ a by omega)
      refine (spoil_c W1 s (h.g0 g) n j m D hD hsp (by omega) hm).mono ?_
      rintro e w ⟨rfl, s', hx, h1, h2, h3⟩
      exact ⟨0, rfl, s', hx, .inr (.inl ⟨rfl, rfl, rfl, .inr ⟨h1, .inr (.inr (.inr (.inl ⟨rfl, n, D, j, rfl, hD, hsp, rfl, by omega, h2, h3⟩)))⟩⟩)⟩
  · refine (spoil_twice W1 s (h.g0 g) n a m D hD hsp).mono ?_
    rintro e w ⟨rfl, rfl⟩
    exact ⟨94, rfl, s, nx_refl (h.g0 g) (Gr.refl _ _), .inl ⟨rfl, rfl, rfl, .inr (.inr (.inr (.inl ⟨rfl, rfl, n, D, rfl, hD, hsp⟩)))⟩⟩
theorem wipe_all {s : Ns} (h : Nt W s) (hz : s.z ≤ 100000000) (k f t i a : Int) (hk : k = 6) (m : Nat) (l : List Nat) (W1 : World) (g : G0 W W1) : Calls Try.prog 27 #[pt s.p, .int .i64 f] W1 fun e w' => ∃ c, e = .returned (.int .i64 c) ∧ MS s (fun s' c => Outc s s' k f t i a m l d0 false c) W1 w' c := by
  rcases hn : nod f s.nodes with _ | _
  · refine (wipe_node W1 s (h.g0 g) f hn).mono ?_
    rintro e w ⟨rfl, rfl⟩
    exact ⟨90, rfl, s, nx_refl (h.g0 g) (Gr.refl _ _), .inl ⟨rfl, rfl, rfl, .inr (.inr (.inr (.inr (.inr ⟨.inr hk, hn, rfl⟩))))⟩⟩
  · refine (wipe_c W1 s (h.g0 g) hz f hn).mono ?_
    rintro e w ⟨rfl, s', hx, h1, h2, h3⟩
    exact ⟨0, rfl, s', hx, .inr (.inl ⟨rfl, rfl, rfl, .inr ⟨h1, .inr (.inr (.inr (.inr (.inr ⟨hk, hn, h2, h3⟩))))⟩⟩)⟩
theorem send_all {s : Ns} (h : Nt W s) (hz : s.z ≤ 100000000) (f t i a : Int) (m : Nat) (l : List Nat) (W1 : World) (gb cap : Nat) (g : G0 W W1) (hg : W.heap.size ≤ gb) (hs : Sl W1 (.slice (some ⟨gb, 0, none⟩) l.length cap) l) : Calls Try.prog 21 #[pt s.p, .int .i64 f, .int .i64 t, .slice (some ⟨gb, 0, none⟩) l.length cap] W1 fun e w' => ∃ c, e = .returned (.int .i64 c) ∧ MS s (fun s' c => Outc s s' 0 f t i a m l d0 false c) W1 w' c := by
  rcases hm : may f t s.nodes with _ | _
  · refine (send_node W1 s (h.g0 g) f t _ hm).mono ?_
    rintro e w ⟨rfl, rfl⟩
    exact ⟨90, rfl, s, nx_refl (h.g0 g) (Gr.refl _ _), .inl ⟨rfl, rfl, rfl, .inl ⟨rfl, hm, rfl⟩⟩⟩
  by_cases hl : l.length ≤ 1212
  · refine (send_c W1 s (h.g0 g) hz f t _ l hs (fun b off len cap e hb => by cases e; have := h.lt hb; omega) hm hl).mono ?_
    rintro e w ⟨rfl, s', hx, h1, h2⟩
    exact ⟨0, rfl, s', hx, .inr (.inl ⟨rfl, rfl, rfl, .inl ⟨rfl, hm, hl, h1, h2⟩⟩)⟩
  · refine (send_long W1 s (h.g0 g) f t _ l.length cap hm (by omega) (by have := hs.len; omega)).mono ?_
    rintro e w ⟨rfl, rfl⟩
    exact ⟨91, rfl, s, nx_refl (h.g0 g) (Gr.refl _ _), .inl ⟨rfl, rfl, rfl, .inr (.inl ⟨rfl, hm, by omega, rfl⟩)⟩⟩
def MT (s : Ns) (f t i a : Int) (m : Nat) (l : List Nat) : World → World → Dv → Bool → Int → Prop := fun W1 w d b c => ∃ s', Nx W1 s w s' ∧ Outc s s' 5 f t i a m l d b c ∧ (b = true → ∀ D r, s.q (some f) = D :: r → w.heap[D.bk]? = some (.cells (bs D.by').toArray 5 (0, 0)) ∧ ¬ Fp s' D.bk)
theorem take_all {s : Ns} (h : Nt W s) (hz : s.z ≤ 100000000) (f t i a : Int) (m : Nat) (l : List Nat) (W1 : World) (g : G0 W W1) : Calls Try.prog 24 #[pt s.p, .int .i64 f] W1 fun e w' => ∃ d b c, e = .returned (.tuple #[Dv.v d, .bool b, .int .i64 c]) ∧ MT s f t i a m l W1 w' d b c := by
  rcases hn : nod f s.nodes with _ | _
  · refine (take_node W1 s (h.g0 g) f hn).mono ?_
    rintro e w ⟨rfl, hg⟩
    exact ⟨d0, false, 90, rfl, s, nx_refl ((h.g0 g).g0 hg) hg, .inl ⟨rfl, rfl, rfl, .inr (.inr (.inr (.inr (.inr ⟨.inl rfl, hn, rfl⟩))))⟩, fun e => by cases e⟩
  cases hq : s.q (some f) with
  | nil =>
    refine (take_none W1 s (h.g0 g) f hn hq).mono ?_
    rintro e w ⟨rfl, hg⟩
    exact ⟨d0, false, 0, rfl, s, nx_refl ((h.g0 g).g0 hg) hg, .inr (.inl ⟨rfl, rfl, rfl, .inr ⟨rfl, .inr (.inr (.inr (.inr (.inl ⟨rfl, hn, hq, rfl⟩))))⟩⟩), fun e => by cases e⟩
  | cons D r =>
    refine (take_c W1 s (h.g0 g) hz f hn D r hq).mono ?_
    rintro e w ⟨rfl, s', hx, h1, h2, h3, h4, h5⟩
    exact ⟨dvOf D, true, 0, rfl, s', hx, .inr (.inr ⟨rfl, rfl, rfl, hn, h1, h2, D, r, hq, rfl, h3⟩), fun _ D' r' e => by rw [hq] at e; cases e; exact ⟨h4, h5⟩⟩
/-- do of a net. -/
theorem do_net (W : World) (s : Ns) (h : Nt W s) (hz : s.z ≤ 100000000) (k f t i a : Int) (m : Nat) (bv : Value) (l : List Nat) (hs : Sl W bv l) (hm : m < 4294967296) (hk0 : 0 ≤ k) (hk6 : k ≤ 6) : Calls Try.prog 12 #[pt s.p, ov k f t i a m bv] W (Ends W s k f t i a m l) := by
  have hpv : ∃ q, pt s.p = Value.pointer q := ⟨_, rfl⟩
  by_cases h0 : k = 0
  · subst h0
    refine (do_0 W (pt s.p) f t i a m bv l hs _ hpv (letsMS h _) (fun W1 gb cap g hg hsl => send_all h hz f t i a m l W1 gb cap g hg hsl)).mono ?_
    rintro e w' ⟨c, W1, w1, rfl, h1, ⟨s', hx, ho⟩, h4⟩
    exact ⟨s', d0, false, c, rfl, (do_end h h1 hx h4).1, ho, fun e => by cases e⟩
  by_cases h1 : k = 1
  · subst h1; exact (do_1 W (pt s.p) f t i a m bv _ hpv (letsM h _) (fun W1 g _ => deliver_all h hz f t i a m l W1 g)).mono (fun e w' hd => did_end h hd)
  by_cases h2 : k = 2
  · subst h2; exact (do_2 W (pt s.p) f t i a m bv _ hpv (letsM h _) (fun W1 g _ => drop_all h hz f t i a m l W1 g)).mono (fun e w' hd => did_end h hd)
  by_cases h3 : k = 3
  · subst h3; exact (do_3 W (pt s.p) f t i a m bv _ hpv (letsM h _) (fun W1 g _ => twin_all h hz f t i a m l W1 g)).mono (fun e w' hd => did_end h hd)
  by_cases h4 : k = 4
  · subst h4; exact (do_4 W (pt s.p) f t i a m bv _ hpv (letsM h _) (fun W1 g _ => spoil_all h f t i a m hm l W1 g)).mono (fun e w' hd => did_end h hd)
  by_cases h5 : k = 5
  · subst h5
    refine (do_5 W (pt s.p) f t i a m bv (MT s f t i a m l) hpv (fun W1 w d b c hg hs ⟨s', hx, _⟩ => ⟨hx.gr.size, fun j h1 hj => hx.gr.block j (by omega) (fun e => by have := h.lt e; omega)⟩) (fun W1 g _ => take_all h hz f t i a m l W1 g)).mono ?_
    rintro e w' ⟨d, b, c, W1, w1, rfl, g1, hsz, ⟨s', hx, ho, hb⟩, g4⟩
    rw [← hsz] at g4
    obtain ⟨hx', hk⟩ := do_end h g1 hx g4
    refine ⟨s', d, b, c, rfl, hx', ho, fun e D r hq => ?_⟩
    obtain ⟨b1, b2⟩ := hb e D r hq
    refine ⟨(hk D.bk (fun e2 => ?_) (lt_of_blk b1)).trans b1, b2⟩
    have := h.lt (k := D.bk) (.inr (.inr (.inr ⟨some f, D, by rw [hq]; simp, rfl⟩)))
    omega
  have h6 : k = 6 := by omega
  exact (do_6 W (pt s.p) k (by simpa using h0) (by simpa using h1) (by simpa using h2) (by simpa using h3) (by simpa using h4) (by simpa using h5) f t i a m bv _ hpv (letsM h _) (fun W1 g _ => wipe_all h hz k f t i a h6 m l W1 g)).mono (fun e w' hd => did_end h hd)
end Go.Proofs.Ytjffhnpoipolfaa
