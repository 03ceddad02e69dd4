/-
  The reference's Do beside the program's do: the same answers, the same nets.
-/
import Derived.Test.YtjffhnpoipolfaaZB
import Derived.Test.YtjffhnpoipolfaaZE
import Derived.Test.YtjffhnpoipolfaaZG
import Derived.Test.YtjffhnpoipolfaaZI
import Derived.Test.YtjffhnpoipolfaaZJ
import Derived.Test.YtjffhnpoipolfaaZK
import Derived.Test.YtjffhnpoipolfaaZN
set_option linter.unusedVariables false
set_option linter.unusedSimpArgs false
namespace Go.Proofs.Ytjffhnpoipolfaa
open Go.RowKit Go.Maps Go.WideMaps
variable {S S' Y : Nat → Prop} {W W1 W' : World}

/-- What is taken, as the reference answers it. -/
def TkX (Y : Nat → Prop) (w : World) (s : Ns) (f : Int) (ok : Bool) (dd : Value) : Prop :=
  (ok = false ∧ dd = zdv) ∨ (ok = true ∧ ∃ x : Dx, dd = x.val ∧ SlY Y w x ∧ ∃ D r, s.q (some f) = D :: r ∧ abx x = ab D)
/-- How the reference's Do ends beside the program's. -/
def EndR (W : World) (Y : Nat → Prop) (s s' : Ns) (nodes : Int) (f : Int) (ok : Bool) (c : Int) (n : Nat) : World → Value → Value → Bool → Int → Prop :=
  fun w' nv dd ok' c' => ok' = ok ∧ c' = c ∧ TkX (fun k => Y k ∨ W.heap.size ≤ k) w' s f ok dd ∧ ∃ sent' lost' wv' bv' lw' lb', nv = rv nodes sent' wv' bv' lost' ∧ Rel s' sent' lost' lw' lb' ∧ Rg (fun k => Y k ∨ W.heap.size ≤ k) w' wv' lw' ∧ Rg (fun k => Y k ∨ W.heap.size ≤ k) w' bv' lb' ∧ lb'.length ≤ n + 1
theorem EndD.mono {P P' : World → Value → Value → Bool → Int → Prop} {e : Ending} {w' : World} (h : EndD W P e w') (hp : ∀ nv dd ok c, G0 W w' → P w' nv dd ok c → P' w' nv dd ok c) : EndD W P' e w' := by
  obtain ⟨nv, dd, ok, c, he, h1, hg⟩ := h
  exact ⟨nv, dd, ok, c, he, hp nv dd ok c hg h1, hg⟩
theorem Rg.on {v : Value} {l : List Dx} (h : Rg Y W v l) (hY : ∀ k, Y k → k < W.heap.size) (g : G0 W W') : Rg (fun k => Y k ∨ W.heap.size ≤ k) W' v l :=
  (h.keep (fun k hk => g.block k (hY k hk) (fun e => e))).wide (fun k e => .inl e)
theorem ref_out {i : Int} {n : Nat} (h : ref i n = 92) : i < 0 ∨ (n : Int) ≤ i := by
  unfold ref at h
  split at h
  · assumption
  · cases h
theorem abx_sp {d : Dx} {D : Dg} (h : abx d = ab D) : d.sp = D.sp ∧ d.by' = D.by' ∧ d.f = D.f ∧ d.t = D.t ∧ d.n = D.n := by
  simp only [abx, ab, Prod.mk.injEq] at h
  exact ⟨h.2.2.2.2, h.2.2.2.1, h.1, h.2.1, h.2.2.1⟩
set_option maxHeartbeats 1600000 in
theorem refdo {s s' : Ns} {sent lost : Nat} {wv bv ob : Value} {lw lb : List Dx} {k f t i a : Int} {m : Nat} {l : List Nat} {d : Dv} {ok : Bool} {c : Int} {nodes : Int} (hR : Rel s sent lost lw lb) (hw : Rg Y W wv lw) (hb : Rg Y W bv lb) (hY : ∀ k, Y k → k < W.heap.size)
    (hnd : s.nodes = nodes) (hlw : lw.length ≤ 1024) (hlb : lb.length ≤ 300) (hse : sent ≤ 100000) (hlo : lost ≤ 1000000) (hs : Sl W ob l) (hm : m < 4294967296) (ho : Outc s s' k f t i a m l d ok c) :
    Calls Try.prog 13 #[rv nodes sent wv bv lost, ov k f t i a (m : Int) ob] W (EndD W (EndR W Y s s' nodes f ok c lb.length)) := by
  obtain ⟨oa, oc, rfl⟩ : ∃ a cap, ob = .slice a l.length cap := by
    rcases hs.at' with ⟨rfl, rfl⟩ | ⟨a, cap, rfl, h1, h2, h3⟩
    · exact ⟨_, _, rfl⟩
    · exact ⟨_, _, rfl⟩
  obtain ⟨va, vc, rfl, _, _⟩ := ownsRow_sv hw.row
  obtain ⟨ba, bc, rfl, _, _⟩ := ownsRow_sv hb.row
  have hlen := hR.len
  have no : ∀ {e : Ending} {w' : World} {c' : Int}, s' = s → ok = false → c' = c → EndD W (No (rv nodes sent (.slice va lw.length vc) (.slice ba lb.length bc) lost) c') e w' → EndD W (EndR W Y s s' nodes f ok c lb.length) e w' := fun e1 e2 e3 h => h.mono (fun nv dd ok' c' hg ⟨h1, h2, h3, h4⟩ => ⟨h3.trans e2.symm, h4.trans e3, .inl ⟨e2, h2⟩, sent, lost, _, _, lw, lb, h1, by rw [e1]; exact hR, hw.on hY hg, hb.on hY hg, by omega⟩)
  rcases ho with ⟨-, hok, hss, hbad⟩ | ⟨-, hok, hc0, hgood⟩ | ⟨rfl, rfl, rfl, hn, hsn, hls, D, r, hq, -, hq'⟩
  · rcases hbad with ⟨rfl, h1, h2⟩ | ⟨rfl, h1, h2, h3⟩ | ⟨hk, h1, h2⟩ | ⟨rfl, h1, n, D, rfl, hD, hsp⟩ | ⟨rfl, h1, n, D, rfl, hD, hsp, ha⟩ | ⟨hk, h1, h2⟩
    · exact (do0_node W nodes sent va lw.length vc ba lb.length bc lost f t i a m oa l.length oc (hnd ▸ h1)).mono (fun e w' h => no hss hok h2.symm h)
    · exact (do0_long W nodes sent va lw.length vc ba lb.length bc lost f t i a m oa l.length oc (hnd ▸ h1) (by omega) (by have := hs.len; omega)).mono (fun e w' h => no hss hok h3.symm h)
    · have hi := ref_out h1
      rw [← hlen] at hi
      rcases hk with rfl | rfl | rfl | rfl
      · exact (do1_none W nodes sent va lw.length vc ba lb.length bc lost f t i a m oa l.length oc (by omega) hi).mono (fun e w' h => no hss hok h2.symm h)
      · exact (do2_none W nodes sent va lw.length vc ba lb.length bc lost f t i a m oa l.length oc (by omega) hi).mono (fun e w' h => no hss hok h2.symm h)
      · exact (do3_none W nodes sent va lw.length vc ba lb.length bc lost f t i a m oa l.length oc (by omega) hi).mono (fun e w' h => no hss hok h2.symm h)
      · exact (do4_none W nodes sent va lw.length vc ba lb.length bc lost f t i a m oa l.length oc (by omega) hi).mono (fun e w' h => no hss hok h2.symm h)
    · obtain ⟨dx, hdx, hab⟩ := rel_at hR hD
      exact (do4_twice W nodes sent _ lw ba lb.length bc lost f t n a m oa l.length oc hw hY (by omega) dx hdx ((abx_sp hab).1.trans hsp)).mono (fun e w' h => no hss hok h1.symm h)
    · obtain ⟨dx, hdx, hab⟩ := rel_at hR hD
      exact (do4_place W nodes sent _ lw ba lb.length bc lost f t n a m oa l.length oc hw hY (by omega) dx hdx ((abx_sp hab).1.trans hsp) (by rw [(abx_sp hab).2.1]; exact ha)).mono (fun e w' h => no hss hok h1.symm h)
    · rcases hk with rfl | rfl
      · exact (do5_node W nodes sent va lw.length vc ba lb.length bc lost f t i a m oa l.length oc (hnd ▸ h1)).mono (fun e w' h => no hss hok h2.symm h)
      · exact (do6_node W nodes sent va lw.length vc ba lb.length bc lost f t i a m oa l.length oc (hnd ▸ h1)).mono (fun e w' h => no hss hok h2.symm h)
  · subst hc0
    rcases hgood with ⟨rfl, h1, h2, h3, h4⟩ | ⟨hsn, hg⟩
    · refine (do0_ok W nodes sent _ lw ba lb.length bc lost f t i a m _ l hw hY (by omega) (by omega) (by omega) (hnd ▸ h1) hs (by omega)).mono (fun e w' h => h.mono ?_)
      rintro nv dd ok' c' hg ⟨wv', l', lost', rfl, e2, e3, e4, hr, hp⟩
      exact ⟨e3.trans hok.symm, e4, .inl ⟨hok, e2⟩, sent + 1, lost', wv', _, l', lb, rfl, hR.put h4 (by rw [← hR.sent]; exact hp) (sent + 1) (by rw [h3, hR.sent]), hr, hb.on hY hg, by omega⟩
    · rcases hg with ⟨rfl, n, D, rfl, hD, hc⟩ | ⟨rfl, n, D, rfl, hD, h1, h2⟩ | ⟨rfl, n, D, rfl, hD, hp⟩ | ⟨rfl, n, D, j, rfl, hD, hsp, rfl, hj, h1, h2⟩ | ⟨rfl, hn, hq, hss⟩ | ⟨rfl, hn, h1, h2⟩
      · obtain ⟨dx, hdx, hab⟩ := rel_at hR hD
        have hi := (List.getElem?_eq_some_iff.1 hdx).1
        rcases hR.came hab hsn hc with ⟨h1, h2⟩ | ⟨h1, h2⟩
        · refine (do1_room W nodes sent _ lw ba bc lb lost f t n a m oa l.length oc hw hY hi (by omega) (by omega) hb.row (by omega) dx hdx (by omega) (by omega) hb.own hb.byt).mono (fun e w' h => h.mono ?_)
          rintro nv dd ok' c' hg ⟨wv', bv', rfl, e2, e3, e4, hr1, hr2⟩
          exact ⟨e3.trans hok.symm, e4, .inl ⟨hok, e2⟩, sent, lost, wv', bv', _, _, rfl, h2, hr1, hr2, by simp⟩
        · refine (do1_full W nodes sent _ lw ba bc lb lost f t n a m oa l.length oc hw hY hi (by omega) (by omega) hb.row (by omega) dx hdx h1).mono (fun e w' h => h.mono ?_)
          rintro nv dd ok' c' hg ⟨wv', rfl, e2, e3, e4, hr1⟩
          exact ⟨e3.trans hok.symm, e4, .inl ⟨hok, e2⟩, sent, lost + 1, wv', _, _, lb, rfl, h2, hr1, hb.on hY hg, by omega⟩
      · obtain ⟨dx, hdx, hab⟩ := rel_at hR hD
        have hi := (List.getElem?_eq_some_iff.1 hdx).1
        refine (do2_ok W nodes sent _ lw ba lb.length bc lost f t n a m oa l.length oc hw hY hi (by omega) (by omega)).mono (fun e w' h => h.mono ?_)
        rintro nv dd ok' c' hg ⟨wv', rfl, e2, e3, e4, hr1⟩
        exact ⟨e3.trans hok.symm, e4, .inl ⟨hok, e2⟩, sent, lost + 1, wv', _, _, lb, rfl, hR.drop hsn h1 h2, hr1, hb.on hY hg, by omega⟩
      · obtain ⟨dx, hdx, hab⟩ := rel_at hR hD
        have hi := (List.getElem?_eq_some_iff.1 hdx).1
        refine (do3_ok W nodes sent _ lw ba lb.length bc lost f t n a m oa l.length oc hw hY hi (by omega) (by omega) dx hdx).mono (fun e w' h => h.mono ?_)
        rintro nv dd ok' c' hg ⟨wv', l', lost', rfl, e2, e3, e4, hr1, hpx⟩
        rw [hab] at hpx
        exact ⟨e3.trans hok.symm, e4, .inl ⟨hok, e2⟩, sent, lost', wv', _, l', lb, rfl, hR.put hp hpx sent (by rw [hsn, hR.sent]), hr1, hb.on hY hg, by omega⟩
      · obtain ⟨dx, hdx, hab⟩ := rel_at hR hD
        obtain ⟨q1, q2, q3, q4, q5⟩ := abx_sp hab
        refine (do4_ok W nodes sent _ lw ba lb.length bc lost f t n j m oa l.length oc hw hY (by omega) dx hdx (q1.trans hsp) (by rw [q2]; exact hj) hm).mono (fun e w' h => h.mono ?_)
        rintro nv dd ok' c' hg ⟨wv', d', rfl, e2, e3, e4, hab', hr1⟩
        refine ⟨e3.trans hok.symm, e4, .inl ⟨hok, e2⟩, sent, lost, wv', _, _, lb, rfl, hR.spoil hD hsn h1 h2 ?_, hr1, hb.on hY hg, by omega⟩
        rw [hab', q2, q3, q4, q5]; rfl
      · refine (do5_ok W nodes sent va lw.length vc _ lb lost f t i a m oa l.length oc hb hY (by omega) (by omega) (hnd ▸ hn)).mono (fun e w' h => h.mono ?_)
        rintro nv dd ok' c' hg ⟨e4, ⟨e3, e2, rfl, _⟩ | ⟨_, j, x, bv', hj, hx, _⟩⟩
        · exact ⟨e3.trans hok.symm, e4, .inl ⟨hok, e2⟩, sent, lost, _, _, lw, lb, rfl, by rw [hss]; exact hR, hw.on hY hg, hb.on hY hg, by omega⟩
        · exact absurd hx (hR.none_of hq x (List.mem_of_getElem? hj))
      · refine (do6_ok W nodes sent va lw.length vc _ lb lost f t i a m oa l.length oc hb hY (by omega) (by omega) (hnd ▸ hn)).mono (fun e w' h => h.mono ?_)
        rintro nv dd ok' c' hg ⟨e4, e3, e2, bv', rfl, hr1⟩
        exact ⟨e3.trans hok.symm, e4, .inl ⟨hok, e2⟩, sent, _, _, bv', lw, _, rfl, hR.wipe hsn h1 h2, hw.on hY hg, hr1, Nat.le_succ_of_le (List.length_filter_le _ _)⟩
  · refine (do5_ok W nodes sent va lw.length vc _ lb lost f t i a m oa l.length oc hb hY (by omega) (by omega) (hnd ▸ hn)).mono (fun e w' h => h.mono ?_)
    rintro nv dd ok' c' hg ⟨e4, ⟨e3, e2, rfl, hno⟩ | ⟨e3, j, x, bv', hj, hx, hfst, e2, rfl, hr1⟩⟩
    · exfalso
      have hbx := hR.box f
      rw [hq] at hbx
      have : (lb.filter (fun d => d.t == f)) = [] := List.filter_eq_nil_iff.2 (fun y hy => by simpa using hno y hy)
      rw [this] at hbx
      cases hbx
    · obtain ⟨hab, hR'⟩ := hR.take hq hsn hls hq' hj hx hfst
      refine ⟨e3, e4, .inr ⟨rfl, x, e2, ?_, D, r, hq, hab⟩, sent, lost, _, bv', lw, _, rfl, hR', hw.on hY hg, hr1, ?_⟩
      · have h1 := (hb.byt x (List.mem_of_getElem? hj)).keep (W' := w') (fun k hk => hg.block k (hY k hk) (fun e => e))
        exact ⟨h1.1, fun b off e => (h1.2.1 b off e).imp id .inl, h1.2.2⟩
      · have := List.length_eraseIdx_le lb j; omega
end Go.Proofs.Ytjffhnpoipolfaa
