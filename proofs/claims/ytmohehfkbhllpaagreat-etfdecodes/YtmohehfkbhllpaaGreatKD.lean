/-
  Carried over from another seat of ours (KD).
-/
import Derived.Test.YtmohehfkbhllpaaGreatKA
import Derived.Test.YtmohehfkbhllpaaGreatNA
import Derived.Test.YtmohehfkbhllpaaGreatBK
import Derived.Test.YtmohehfkbhllpaaGreatAS
import Derived.Deep.RegionWith
import Derived.Deep.RegionHeld3
set_option linter.unusedVariables false
set_option linter.unusedSimpArgs false
namespace Go.Proofs.YtmohehfkbhllpaaGreat
open Go.RowKit Go.Maps
variable {S S' Z F : Nat → Prop} {W W1 W' : World}

theorem Sq.sbo {v : Value} {m : List Int} (h : Sq Z W v m) : (∃ c, v = .slice none 0 c ∧ m = []) ∨ ∃ a c, v = .slice (some a) m.length c ∧ ∀ j u, (u8s m)[j]? = some u → W.cell? (a.add j) = some u := by
  obtain ⟨a, c, rfl, h1, h2, h3, h4⟩ := h
  cases a with
  | none =>
    by_cases hm : m = []
    · subst hm; exact .inl ⟨c, rfl, rfl⟩
    · obtain ⟨g, o, e, _⟩ := h4 hm; cases e
  | some a =>
    refine .inr ⟨a, c, rfl, fun j u hu => ?_⟩
    by_cases hm : m = []
    · subst hm; simp [u8s] at hu
    · obtain ⟨g, o, e, hz, h5⟩ := h4 hm
      cases e
      rw [u8s, List.getElem?_map] at hu
      obtain ⟨x, hx, rfl⟩ := Option.map_eq_some_iff.1 hu
      rw [Addr.add_lit]
      exact h5 j x hx
theorem Sq.sbS {v : Value} {m : List Int} (h : Sq Z W v m) : Sb W v m := h.sbo
set_option maxHeartbeats 1000000 in
theorem cloneBy_c (W : World) (v : Value) (bs : List Int) (h : Sb W v bs) (hl : bs.length ≤ 900000) : Calls Tryz.prog 53 #[v] W fun e w' => ∃ v', e = .returned v' ∧ Ob W.heap.size w' v' bs ∧ Gr (fun _ => False) W w' := by
  have q := q28
  have h0 := h
  rcases h with ⟨c, rfl, rfl⟩ | ⟨a, cap, rfl, h3⟩
  · go_enter Tryz.func53, Tryz.ntmps53
    go_wp2
    go_ret
    exact ⟨_, rfl, Ob.nil _ _, Gr.refl _ _⟩
  · have ho := Ob.lit W.heap.size W [] (by simp) (Nat.le_refl _) #[] rfl 0 rfl
    have hs : Sb (W.alloc (.cells #[] 5)) (.slice (some a) bs.length cap) bs := by
      refine .inr ⟨a, cap, rfl, fun j u hu => ?_⟩
      have := h3 j u hu
      rw [World.cell?_of_block (w' := W.alloc (.cells #[] 5)) (w := W) (a := a.add j) ((Gr.alloc W (.cells #[] 5) (fun _ => False)).block _ (World.block_lt_of_cell? W _ this) (fun e => e))]
      exact this
    clear h3
    go_enter Tryz.func53, Tryz.ntmps53
    go_wp2_with (at_builtin; refine wpList_ap rfl _ _ rfl W.heap.size (.slice (some ⟨W.heap.size, 0, none⟩) 0 0) _ [] bs rfl rfl ho hs (by simp; omega) (by simp) ?_; intro v' w1 o1 g1)
    go_ret
    refine ⟨v', rfl, by simpa using o1, ?_⟩
    exact (Gr.alloc W _ _).trans' g1.gr (fun i hi e => by simp [Value.ownBlock] at e; omega)
/-- Bytes that are told, behind a size. -/
def rwq (m : List Int) (n : Nat) : Except Int (List Int × List Int × Nat) :=
  match nmb 10 0 0 m with
  | .error e => .error e
  | .ok (u, r) => if 4096 - n < u then .error 21 else if r.length < u then .error 72 else .ok (r.take u, r.drop u, n + u)
def EndR (Z : Nat → Prop) (W : World) (b tb : Nat) (e : Ending) (w' : World) : Except Int (List Int × List Int × Nat) → Prop
  | .ok (bs, m, n) => ∃ v, e = .returned v ∧ RowB (fun k => W.heap.size ≤ k) w' bs v ∧ Sr Z W b w' m n tb
  | .error c => e = thr c ∧ Gr (fun k => k = b) W w'
set_option maxRecDepth 20000 in
set_option maxHeartbeats 1600000 in
theorem raw_c (W : World) (b n tb : Nat) (m : List Int) (h : Re Z W b m n tb) (hn : n ≤ 4096) : Calls Tryz.prog 30 #[pt b] W fun e w' => EndR Z W b tb e w' (rwq m n) := by
  have h1 := number_c W b n tb m h
  cases hr : nmb 10 0 0 m with
  | error c =>
    rw [hr] at h1
    rw [show rwq m n = .error c by simp [rwq, hr]]
    go_enter Tryz.func30, Tryz.ntmps30
    go_wp2_with fail
    refine h1.mono ?_
    rintro e w' ⟨rfl, hg⟩
    exact ⟨rfl, rfl, hg⟩
  | ok x =>
    obtain ⟨u, r⟩ := x
    rw [hr] at h1
    have hnI : (n : Int) ≤ 4096 := by omega
    have hn0 : (0 : Int) ≤ (n : Int) := by omega
    by_cases hu : 4096 - n < u
    · rw [show rwq m n = .error 21 by simp [rwq, hr, hu]]
      have huI : (4096 : Int) - (n : Int) < (u : Int) := by omega
      clear hr hu hn
      go_enter Tryz.func30, Tryz.ntmps30
      go_wp2_with fail
      refine h1.mono ?_
      rintro e w1 ⟨rfl, hs, -⟩
      obtain ⟨lv, hB, hq, hz⟩ := hs.1
      obtain ⟨c0, c1, c2, f0, f1⟩ := three46 hB
      go_wp2_with fail
      exact ⟨rfl, rfl, hs.2⟩
    · have huI : ¬ (4096 : Int) - (n : Int) < (u : Int) := by omega
      have huI2 : (u : Int) ≤ 4096 := by omega
      have hu0 : (0 : Int) ≤ (u : Int) := by omega
      have hsum : (n : Int) + (u : Int) ≤ 4096 := by omega
      have hset : ∀ w1, Re Z w1 b r n tb → Sr Z w1 b (w1.setCell ⟨b, 1, none⟩ (.int .i64 ((n : Int) + (u : Int)))) r (n + u) tb := fun w1 hre => by
        obtain ⟨lv, hB, hq, hz⟩ := hre
        have g : Gr (fun i => i = b) w1 (w1.setCell ⟨b, 1, none⟩ (.int .i64 ((n : Int) + (u : Int)))) := Gr.set (S := fun i => i = b) w1 ⟨b, 1, none⟩ _ rfl
        exact ⟨⟨lv, by have := Re.set1 hB (.int .i64 ((n : Int) + (u : Int))); simpa using this, hq.gr g (fun i hi e => hz (e ▸ hi)), hz⟩, g⟩
      by_cases hlen : r.length < u
      · rw [show rwq m n = .error 72 by simp [rwq, hr, hu, hlen]]
        have ht := fun w h => take_no (Z := Z) w b (n + u) tb r (u : Int) h (by omega)
        clear hr hu hn hlen
        replace hset := Lib.hid hset
        go_enter Tryz.func30, Tryz.ntmps30
        go_wp2_with fail
        refine h1.mono ?_
        rintro e w1 ⟨rfl, hs, -⟩
        have hs1 := hset.out w1 hs.1
        obtain ⟨lv, hB, hq, hz⟩ := hs.1
        obtain ⟨c0, c1, c2, f0, f1⟩ := three46 hB
        have hb1 := (Array.getElem?_eq_some_iff.1 hB).1
        go_wp2_with fail
        refine (ht _ hs1.1).mono ?_
        rintro e w2 ⟨rfl, hg⟩
        exact ⟨rfl, rfl, (hs.2.trans hs1.2).trans hg⟩
      · rw [show rwq m n = .ok (r.take u, r.drop u, n + u) by simp [rwq, hr, hu, hlen]]
        have ht := fun w h => take_ok (Z := Z) w b (n + u) tb r u h (by omega)
        have hcl := fun w v (h : Sq Z w v (r.take u)) => cloneBy_c w v (r.take u) h.sbS (by rw [List.length_take]; omega)
        clear hr hu hn hlen
        generalize r.take u = q at ht hcl ⊢
        replace hset := Lib.hid hset
        go_enter Tryz.func30, Tryz.ntmps30
        go_wp2_with fail
        refine h1.mono ?_
        rintro e w1 ⟨rfl, hs, -⟩
        have hs1 := hset.out w1 hs.1
        obtain ⟨lv, hB, hq, hz⟩ := hs.1
        obtain ⟨c0, c1, c2, f0, f1⟩ := three46 hB
        have hb1 := (Array.getElem?_eq_some_iff.1 hB).1
        go_wp2_with fail
        refine (ht _ hs1.1).mono ?_
        rintro e w2 ⟨v, rfl, hq2, hs2⟩
        have hc2 := hcl w2 v hq2
        obtain ⟨a2, d2, rfl, -⟩ := hq2
        go_wp2_with fail
        refine hc2.mono ?_
        rintro e w3 ⟨v3, rfl, ho3, hg3⟩
        go_wp2_with fail
        go_ret
        have hsz : W.heap.size ≤ w2.heap.size := by have := hs.2.size; have := hs1.2.size; have := hs2.2.size; omega
        refine ⟨v3, rfl, ?_, hs2.1.g0 hg3, (((hs.2.trans hs1.2).trans hs2.2).trans (hg3.mono (fun _ _ e => e.elim)))⟩
        exact (rowB_own ho3.row).turn (fun k hk _ => ⟨Nat.le_trans hsz hk, rfl⟩)

/-! ### Names -/
/-- The reader, its table and the blocks that the table may turn. -/
structure Rt (Z F : Nat → Prop) (W : World) (b n tb : Nat) (m : List Int) (l : List ByteArray) : Prop where
  re : Re Z W b m n tb
  tab : ∃ mp sv, Tab W tb mp sv l ∧ ∀ k, Fp tb mp sv k → F k
  nb : ¬ F b
  nz : ∀ k, Z k → ¬ F k
  zl : ∀ k, Z k → k < W.heap.size
theorem Rt.sr {b n n' tb : Nat} {m m' : List Int} {l : List ByteArray} (h : Rt Z F W b n tb m l) (k : Sr Z W b W' m' n' tb) : Rt Z F W' b n' tb m' l := by
  obtain ⟨mp, sv, ht, hf⟩ := h.tab
  exact ⟨k.1, ⟨mp, sv, ht.gr k.2 (fun i hi e => h.nb (e ▸ hf i hi)), hf⟩, h.nb, h.nz, fun i hi => Nat.lt_of_lt_of_le (h.zl i hi) k.2.size⟩
theorem Rt.gr {b n tb : Nat} {m : List Int} {l : List ByteArray} (h : Rt Z F W b n tb m l) (g : Gr S W W') (h1 : ¬ S b) (h2 : ∀ k, Z k → ¬ S k) (h3 : ∀ k, F k → ¬ S k) : Rt Z F W' b n tb m l := by
  obtain ⟨mp, sv, ht, hf⟩ := h.tab
  exact ⟨h.re.gr g h2 h1, ⟨mp, sv, ht.gr g (fun i hi => h3 i (hf i hi)), hf⟩, h.nb, h.nz, fun i hi => Nat.lt_of_lt_of_le (h.zl i hi) g.size⟩
/-- What of the world turns while a name is read. -/
structure Nm (Z F : Nat → Prop) (W : World) (b n tb : Nat) (w' : World) (m : List Int) (l : List ByteArray) : Prop where
  at_ : ∃ F', Rt Z F' w' b n tb m l ∧ ∀ k, F' k → F k ∨ W.heap.size ≤ k
  gr : Gr (fun k => k = b ∨ F k) W w'
theorem Sr.nm {b n tb : Nat} {m m' : List Int} {l : List ByteArray} (h : Rt Z F W b n tb m l) (k : Sr Z W b W' m' n tb) : Nm Z F W b n tb W' m' l := ⟨⟨F, h.sr k, fun _ e => .inl e⟩, k.2.mono (fun _ _ e => .inl e)⟩
/-- A new name's bytes. -/
def nwq (m : List Int) (l : List ByteArray) : Except Int (List Int × List ByteArray) :=
  match m with
  | [] => .error 72
  | c :: r => if c < 1 ∨ 32 < c then .error 73 else if r.length < c.toNat then .error 72 else
    if (fnd l (sb (r.take c.toNat)) 0).isSome = true then .error 73 else if putE l (sb (r.take c.toNat)) = 0 then .ok (r.drop c.toNat, putL l (sb (r.take c.toNat))) else .error 73
def EndW7 (Z F : Nat → Prop) (W : World) (b n tb : Nat) (e : Ending) (w' : World) : Except Int (List Int × List ByteArray) → Prop
  | .ok (m, l) => e = .returned (.tuple #[]) ∧ Nm Z F W b n tb w' m l
  | .error c => e = thr c ∧ Gr (fun k => k = b ∨ F k) W w'
theorem conv_sb {v : Value} {m : List Int} (h : Sb W v m) : (convert 22 9 v).run Tryz.prog W = .ok (.string (sb m)) W := by
  rcases h with ⟨c, rfl, rfl⟩ | ⟨a, c, rfl, h3⟩
  · rw [run_convert_bytes_string W 22 9 5 none 0 c Tryz.underlying22 Tryz.underlying5 Tryz.underlying9]
    simp [Conv.bytesToString, sb]
  · rw [run_convert_bytes_string W 22 9 5 (some a) m.length c Tryz.underlying22 Tryz.underlying5 Tryz.underlying9]
    refine run_bytesToString W a m.length c m ?_
    have := run_loadCells_list (P := Tryz.prog) W a (m.map (Value.int .u8)) (fun j u hj => h3 j u hj)
    simpa using this
theorem sb_size (l : List Int) : (sb l).size = l.length := by
  have key : ∀ (l : List Int) (r : ByteArray), (l.foldl (fun r n => r.push (UInt8.ofNat n.toNat)) r).size = r.size + l.length := by
    intro l
    induction l with
    | nil => intro r; rfl
    | cons x l ih => intro r; rw [List.foldl_cons, ih, ByteArray.size_push, List.length_cons]; omega
  have := key l ByteArray.empty
  simpa [sb] using this
set_option maxRecDepth 20000 in
set_option maxHeartbeats 1600000 in
theorem newName_c (W : World) (b n tb : Nat) (m : List Int) (l : List ByteArray) (h : Rt Z F W b n tb m l) : Calls Tryz.prog 51 #[pt b] W fun e w' => EndW7 Z F W b n tb e w' (nwq m l) := by
  have hm1 := fun {w' : World} (g : Gr (fun k => k = b) W w') => g.mono (S' := fun k => k = b ∨ F k) (fun _ _ e => .inl e)
  cases m with
  | nil =>
    have h1 := one_no W b n tb h.re
    go_enter Tryz.func51, Tryz.ntmps51
    go_wp2_with fail
    refine h1.mono ?_
    rintro e w' ⟨rfl, hg⟩
    exact ⟨rfl, rfl, hm1 hg⟩
  | cons c r =>
    have hcb := h.re.byte c (List.mem_cons_self ..)
    have h1 := one_ok W b n tb c r h.re
    obtain ⟨c, rfl⟩ := Int.eq_ofNat_of_zero_le hcb.1
    have hwc : IntKind.i64.wrap (c : Int) = (c : Int) := by rw [IntKind.wrap_i64]; omega
    have hcI : (c : Int) < 256 := hcb.2
    have hc0 : (0 : Int) ≤ (c : Int) := by omega
    by_cases hbad : (c : Int) < 1 ∨ (32 : Int) < (c : Int)
    · rw [show nwq ((c : Int) :: r) l = .error 73 by simp only [nwq]; rw [if_pos hbad]]
      go_enter Tryz.func51, Tryz.ntmps51
      go_wp2_with fail
      refine h1.mono ?_
      rintro e w1 ⟨rfl, hs⟩
      rcases hbad with hb | hb
      · go_wp2_with fail
        exact ⟨rfl, rfl, hm1 hs.2⟩
      · have hb2 : ¬ (c : Int) < 1 := by omega
        go_wp2_with fail
        exact ⟨rfl, rfl, hm1 hs.2⟩
    · have hb1 : ¬ (c : Int) < 1 := by omega
      have hb2 : ¬ (32 : Int) < (c : Int) := by omega
      by_cases hlen : r.length < c
      · rw [show nwq ((c : Int) :: r) l = .error 72 by simp only [nwq]; rw [if_neg hbad, if_pos (by simpa using hlen)]]
        have ht := fun w h => take_no (Z := Z) w b n tb r (c : Int) h (by omega)
        clear hbad hlen
        go_enter Tryz.func51, Tryz.ntmps51
        go_wp2_with fail
        refine h1.mono ?_
        rintro e w1 ⟨rfl, hs⟩
        go_wp2_with fail
        refine (ht w1 hs.1).mono ?_
        rintro e w2 ⟨rfl, hg⟩
        exact ⟨rfl, rfl, hm1 (hs.2.trans hg)⟩
      · have ht := fun w h => take_ok (Z := Z) w b n tb r c h (by omega)
        have hq32 : (r.take c).length ≤ 32 := by rw [List.length_take]; omega
        obtain ⟨q, hq⟩ : ∃ q, r.take c = q := ⟨_, rfl⟩
        have hsz : (sb q).size ≤ maxLen := by rw [sb_size, ← hq]; unfold maxLen; omega
        have hfi := fun w mp sv (h : Tab w tb mp sv l) => find_c w tb mp sv l (sb q) h hsz
        have hpu := fun w mp sv (h : Tab w tb mp sv l) => put_c w tb mp sv l (sb q) h
        have hnw : nwq ((c : Int) :: r) l = if (fnd l (sb q) 0).isSome = true then .error 73 else if putE l (sb q) = 0 then .ok (r.drop c, putL l (sb q)) else .error 73 := by
          simp only [nwq]; rw [if_neg hbad, if_neg (by simpa using hlen)]; simp [hq]
        rw [hnw]
        rw [hq] at ht
        clear hbad hlen hnw hsz hq hq32
        by_cases hfs : (fnd l (sb q) 0).isSome = true
        · rw [if_pos hfs]
          rw [hfs] at hfi
          generalize (((fnd l (sb q) 0).getD 0 : Nat) : Int) = fi at hfi
          clear hpu hfs
          go_enter Tryz.func51, Tryz.ntmps51
          go_wp2_with fail
          refine h1.mono ?_
          rintro e w1 ⟨rfl, hs⟩
          have hR1 := h.sr hs
          go_wp2_with fail
          refine (ht w1 hs.1).mono ?_
          rintro e w2 ⟨v, rfl, hq2, hs2⟩
          have hR2 := hR1.sr hs2
          have hcv := conv_sb hq2.sbS
          obtain ⟨a2, d2, rfl, -⟩ := hq2
          obtain ⟨lv, hB, hqq, hz⟩ := hR2.re
          obtain ⟨c0, c1, c2, f0, f1⟩ := three46 hB
          obtain ⟨mp, sv, htab, hF⟩ := hR2.tab
          go_wp2_with fail
          refine (hfi w2 mp sv htab).mono ?_
          rintro e w3 ⟨rfl, rfl⟩
          go_wp2_with fail
          exact ⟨rfl, rfl, hm1 (hs.2.trans hs2.2)⟩
        · rw [if_neg hfs]
          rw [show (fnd l (sb q) 0).isSome = false by simpa using hfs] at hfi
          generalize (((fnd l (sb q) 0).getD 0 : Nat) : Int) = fi at hfi
          have hend : ∀ w2 w3 mp sv l', Rt Z F w2 b n tb (r.drop c) l → Tab w2 tb mp sv l → (∀ k, Fp tb mp sv k → F k) → Gr (fun k => k = b) W w2 → Added w2 w3 tb mp sv l' → Nm Z F W b n tb w3 (r.drop c) l' := by
            rintro w2 w3 mp sv l' hR2 htab hF hg ⟨m', sv', htab', hg', hf', -⟩
            have hgF : Gr F w2 w3 := hg'.mono (fun k _ e => hF k e)
            refine ⟨⟨Fp tb m' sv', ⟨hR2.re.gr hgF hR2.nz hR2.nb, ⟨m', sv', htab', fun _ e => e⟩, fun e => ?_, fun k hk e => ?_, fun k hk => Nat.lt_of_lt_of_le (hR2.zl k hk) hgF.size⟩, fun k e => ?_⟩, ?_⟩
            · rcases hf' b e with e | e
              · exact hR2.nb (hF b e)
              · have := hR2.re.lt; omega
            · rcases hf' k e with e | e
              · exact hR2.nz k hk (hF k e)
              · have := hR2.zl k hk; omega
            · rcases hf' k e with e | e
              · exact .inl (hF k e)
              · exact .inr (by have := hg.size; omega)
            · exact (hg.mono (S' := fun k => k = b ∨ F k) (fun _ _ e => .inl e)).trans (hgF.mono (fun _ _ e => .inr e))
          replace hend := Lib.hid hend
          by_cases he : putE l (sb q) = 0
          · rw [if_pos he]
            rw [he] at hpu
            generalize putN l (sb q) = pn at hpu
            clear hfs he
            go_enter Tryz.func51, Tryz.ntmps51
            go_wp2_with fail
            refine h1.mono ?_
            rintro e w1 ⟨rfl, hs⟩
            have hR1 := h.sr hs
            go_wp2_with fail
            refine (ht w1 hs.1).mono ?_
            rintro e w2 ⟨v, rfl, hq2, hs2⟩
            have hR2 := hR1.sr hs2
            have hcv := conv_sb hq2.sbS
            obtain ⟨a2, d2, rfl, -⟩ := hq2
            obtain ⟨lv, hB, hqq, hz⟩ := hR2.re
            obtain ⟨c0, c1, c2, f0, f1⟩ := three46 hB
            obtain ⟨mp, sv, htab, hF⟩ := hR2.tab
            go_wp2_with fail
            refine (hfi w2 mp sv htab).mono ?_
            rintro e w3 ⟨rfl, rfl⟩
            go_wp2_with fail
            refine (hpu w2 mp sv htab).mono ?_
            rintro e w4 ⟨rfl, hadd⟩
            go_wp2_with fail
            go_end0
            exact ⟨rfl, hend.out w2 w4 mp sv _ hR2 htab hF (hs.2.trans hs2.2) hadd⟩
          · rw [if_neg he]
            generalize putE l (sb q) = pe at hpu he
            generalize putN l (sb q) = pn at hpu
            clear hfs
            go_enter Tryz.func51, Tryz.ntmps51
            go_wp2_with fail
            refine h1.mono ?_
            rintro e w1 ⟨rfl, hs⟩
            have hR1 := h.sr hs
            go_wp2_with fail
            refine (ht w1 hs.1).mono ?_
            rintro e w2 ⟨v, rfl, hq2, hs2⟩
            have hR2 := hR1.sr hs2
            have hcv := conv_sb hq2.sbS
            obtain ⟨a2, d2, rfl, -⟩ := hq2
            obtain ⟨lv, hB, hqq, hz⟩ := hR2.re
            obtain ⟨c0, c1, c2, f0, f1⟩ := three46 hB
            obtain ⟨mp, sv, htab, hF⟩ := hR2.tab
            go_wp2_with fail
            refine (hfi w2 mp sv htab).mono ?_
            rintro e w3 ⟨rfl, rfl⟩
            go_wp2_with fail
            refine (hpu w2 mp sv htab).mono ?_
            rintro e w4 ⟨rfl, hadd⟩
            go_wp2_with fail
            exact ⟨rfl, rfl, (hend.out w2 w4 mp sv _ hR2 htab hF (hs.2.trans hs2.2) hadd).gr⟩
theorem Rt.g0 {b n tb : Nat} {m : List Int} {l : List ByteArray} (h : Rt Z F W b n tb m l) (g : Gr (fun _ => False) W W') : Rt Z F W' b n tb m l := h.gr g (fun e => e) (fun _ _ e => e) (fun _ _ e => e)
/-- A name's bytes. -/
def nmq (m : List Int) (l : List ByteArray) : Except Int (ByteArray × List Int × List ByteArray) :=
  match nmb 10 0 0 m with
  | .error e => .error e
  | .ok (u, r) => if l.length < u then .error 73 else if u = l.length then (match nwq r l with
      | .error e => .error e
      | .ok (r', l') => .ok (nameS l' (u : Int), r', l')) else .ok (nameS l (u : Int), r, l)
def EndY (Z F : Nat → Prop) (W : World) (b n tb : Nat) (e : Ending) (w' : World) : Except Int (ByteArray × List Int × List ByteArray) → Prop
  | .ok (s, m, l) => e = .returned (.string s) ∧ Nm Z F W b n tb w' m l
  | .error c => e = thr c ∧ Gr (fun k => k = b ∨ F k) W w'
end Go.Proofs.YtmohehfkbhllpaaGreat

