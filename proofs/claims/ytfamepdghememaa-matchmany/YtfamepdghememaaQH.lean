/-
  Carried over from another seat of ours (QH).
-/
import Derived.Test.YtfamepdghememaaQG
import Derived.WalkMore
set_option linter.unusedVariables false
set_option linter.unusedSimpArgs false
namespace Go.Proofs.Ytfamepdghememaa
open Go.RowKit Go.Maps Go.WideMaps
attribute [local go_sem] Oper.semAt_some
variable {S S' : Nat → Prop} {W W1 W' : World}
theorem Gr.drewN (W : World) (m : Nat) (S : Nat → Prop) : Gr S W (W.drewN m) := ⟨rfl, rfl, rfl, Nat.le_refl _, fun _ _ _ => rfl⟩
/-- A pattern's tuple or list of names, and a tuple or list of ints, in memory. -/
structure Ft (W : World) (gp op gt ot : Nat) (k : Int) (pa ta : Option Addr) (pb tb n pc tc : Nat) (ns : List ByteArray) (vs : List Value) : Prop where
  kp : W.cell? ⟨gp, op, none⟩ = some (.int .i64 k)
  kt : W.cell? ⟨gt, ot, none⟩ = some (.int .i64 k)
  lp : W.cell? ⟨gp, op + 8, none⟩ = some (.slice pa n pc)
  lt : W.cell? ⟨gt, ot + 8, none⟩ = some (.slice ta n tc)
  pz : 0 < n → pa = some ⟨pb, 0, none⟩ ∧ n ≤ pc
  tz : 0 < n → ta = some ⟨tb, 0, none⟩ ∧ n ≤ tc
  nl : ns.length = n
  vl : vs.length = n
  pv : ∀ j s, ns[j]? = some s → ∃ a1 c1 a2 c2, Ns W pb (j * 9) (ts 9 0 0 0 s 0 0 0 a1 0 c1 a2 0 c2)
  tv : ∀ j v, vs[j]? = some v → Ns W tb (j * 9) v ∧ IntV v
theorem Ft.gr {gp op gt ot : Nat} {k : Int} {pa ta : Option Addr} {pb tb n pc tc : Nat} {ns : List ByteArray} {vs : List Value} (h : Ft W gp op gt ot k pa ta pb tb n pc tc ns vs) (g : Gr S W W') (hm : ∀ g o u, W.cell? ⟨g, o, none⟩ = some u → ¬ S g) : Ft W' gp op gt ot k pa ta pb tb n pc tc ns vs := by
  have e : ∀ b o u, W.cell? ⟨b, o, none⟩ = some u → W'.cell? ⟨b, o, none⟩ = some u := fun b o u hu => by
    rw [World.cell?_of_block (w' := W') (w := W) (a := ⟨b, o, none⟩) (g.block b (World.block_lt_of_cell? _ _ hu) (hm b o u hu))]; exact hu
  refine ⟨e _ _ _ h.kp, e _ _ _ h.kt, e _ _ _ h.lp, e _ _ _ h.lt, h.pz, h.tz, h.nl, h.vl, fun j s hs => ?_, fun j v hv => ⟨fun i u hu => e _ _ _ ((h.tv j v hv).1 i u hu), (h.tv j v hv).2⟩⟩
  obtain ⟨a1, c1, a2, c2, hn⟩ := h.pv j s hs
  exact ⟨a1, c1, a2, c2, fun i u hu => e _ _ _ (hn i u hu)⟩
theorem Ft.g0 {gp op gt ot : Nat} {k : Int} {pa ta : Option Addr} {pb tb n pc tc : Nat} {ns : List ByteArray} {vs : List Value} (h : Ft W gp op gt ot k pa ta pb tb n pc tc ns vs) (g : Gr (fun _ => False) W W') : Ft W' gp op gt ot k pa ta pb tb n pc tc ns vs := h.gr g (fun _ _ _ _ e => e)
/-- What holds at each round. -/
def FI (W : World) (mb gp op gt ot pb tb n : Nat) (ns : List ByteArray) (m0 : Nat) (q : Bool × Nat × (ByteArray → Option Value)) (vs : List Value) (v : Value) (X : World) : Prop :=
  (v = .slice (some ⟨W.heap.size, 0, none⟩) 1 1 ∧ X = W.alloc (.cells #[ptr gp op, ptr gt ot] 65)) ∨
  ∃ (j mj : Nat) (Rj : ByteArray → Option Value), j ≤ n ∧ X.ownsRow W.heap.size 65 2 v (n - j) ((prr pb tb n n).take ((n - j) * 2)) ∧ Mo X mb z9 mj Rj ∧ q = fitR ((ns.zip vs).drop j) mj Rj ∧ (∀ s ∈ ns, ∀ v0, Rj s = some v0 → IntV v0) ∧ mj ≤ m0 + j ∧ Gr (fun i => i = mb) W X ∧ W.heap.size + 1 < X.heap.size
def lenS : Value → Nat
  | .slice _ n _ => n
  | _ => 0
set_option maxRecDepth 20000 in
set_option maxHeartbeats 1600000 in
theorem fit_c (hS : SameOk) (W : World) (mb m0 : Nat) (R0 : ByteArray → Option Value) (gp op gt ot : Nat) (k : Int) (pa ta : Option Addr) (pb tb n pc tc : Nat) (ns : List ByteArray) (vs : List Value) (hF : Ft W gp op gt ot k pa ta pb tb n pc tc ns vs) (hM : Mo W mb z9 m0 R0) (hk : k = 6 ∨ k = 7) (hn : n ≤ 256) (hm : m0 ≤ 1000) (hz : ∀ s ∈ ns, s.size ≤ 1000) (hR : ∀ s ∈ ns, ∀ v0, R0 s = some v0 → IntV v0) :
    Calls Try.prog 17 #[.map (some mb), ptr gp op, ptr gt ot] W fun e w' => e = .returned (.bool (fitR (ns.zip vs) m0 R0).1) ∧ Mo w' mb z9 (fitR (ns.zip vs) m0 R0).2.1 (fitR (ns.zip vs) m0 R0).2.2 ∧ Gr (fun i => i = mb) W w' := by
  obtain ⟨q, hq⟩ : ∃ q, q = fitR (ns.zip vs) m0 R0 := ⟨_, rfl⟩
  rw [← hq]
  have Hq := Lib.hid hq
  have HF := Lib.hid hF
  have HM := Lib.hid hM
  have Hz := Lib.hid hz
  have HR := Lib.hid hR
  have Hn := Lib.hid hn
  have Hm := Lib.hid hm
  have HS := Lib.hid hS
  have hgp : gp < W.heap.size := World.block_lt_of_cell? _ _ hF.kp
  have hgt : gt < W.heap.size := World.block_lt_of_cell? _ _ hF.kt
  have hmb := hM.lt
  clear hq hz hR hn hm hS hF hM
  go_enter Try.func17, Try.ntmps17
  go_wp2_with fail
  refine wp_scope_straight ?_
  go_wp2_with fail
  refine wp_label ?_
  go_wp2_with fail
  go_loopw [7] (fun v wr => Hid (FI W mb gp op gt ot pb tb n ns m0 q vs v wr)) (fun v wr => if wr.heap.size = W.heap.size + 1 then 1000 else lenS v)
  case atStart => exact Lib.hid (.inl ⟨rfl, rfl⟩)
  case round =>
    rename_i v
    rcases hrel.out with ⟨rfl, rfl⟩ | ⟨j, mj, Rj, hj, hrow, hMj, hqj, hRj, hmj, hg, hsz⟩
    · clear hrel
      have hkp := HF.out.kp
      have hkt := HF.out.kt
      have hlp := HF.out.lp
      have hlt := HF.out.lt
      have hn0 : (0 : Int) ≤ (n : Int) := by omega
      have hnI : (n : Int) ≤ 256 := by have := Hn.out; omega
      rcases hk with rfl | rfl
      · go_wp2_with fail
        go_quiet (fail)
        go_wp2_with fail
        generalize hX : World.drewN (World.alloc (World.alloc W _) _) nq = X1
        have gX : Gr (fun _ => False) W X1 := hX ▸ (((Gr.alloc W (.cells #[ptr gp op, ptr gt ot] 65) _).trans (Gr.alloc _ (.cells #[ptr gp op, ptr gt ot] 65) _)).trans (Gr.drewN _ _ _))
        have oX : X1.ownsRow W.heap.size 65 2 (.slice (some ⟨W.heap.size, 0, none⟩) 1 1) 1 [ptr gp op, ptr gt ot] := hX ▸ ownsRow_gr (World.ownsRow_lit (base := W.heap.size) (e := 65) (size := 2) W #[ptr gp op, ptr gt ot] 1 (Nat.le_refl _) (by unfold maxLen; omega) rfl) ((Gr.alloc (W.alloc (.cells #[ptr gp op, ptr gt ot] 65)) (.cells #[ptr gp op, ptr gt ot] 65) (fun _ => False)).trans (Gr.drewN _ _ _)) (fun _ _ e => e)
        have sX : X1.heap.size = W.heap.size + 2 := by rw [← hX]; show ((W.alloc _).alloc _).heap.size = _; simp
        have FX := HF.out.g0 gX
        have oX0 := row_cut oX (Nat.zero_le 1)
        have hcall := Lib.hid (elements_c X1 gp op gt ot pb n pc tb tc pa ta Hn.out FX.pz FX.tz FX.lp FX.lt)
        have MX := Lib.hid (HM.out.gr gX (fun e => e))
        have GX := Lib.hid gX
        have OX : Hid (X1.ownsRow W.heap.size 65 2 (.slice (some ⟨W.heap.size, 0, none⟩) 0 1) 0 []) := Lib.hid oX0
        have SX := Lib.hid sX
        clear hX gX oX oX0 FX sX hkp hkt hlp hlt
        refine hcall.out.mono ?_
        rintro e w2 ⟨v2, rfl, hrow2, g2⟩
        have O2 := Lib.hid (ownsRow_gr OX.out g2 (fun _ _ e => e))
        have R2 := Lib.hid hrow2
        have M2 := Lib.hid (MX.out.gr g2 (fun e => e))
        have G2 := Lib.hid (GX.out.trans g2)
        have S2 : Hid (W.heap.size + 2 ≤ w2.heap.size) := Lib.hid (by have := g2.size; have := SX.out; omega)
        clear hrow2 g2 hcall OX MX GX
        go_wp2_with (first
          | (at_builtin; refine wpList_two _ rfl _ _ rfl W.heap.size X1.heap.size 0 n (.slice (some ⟨W.heap.size, 0, none⟩) 0 1) v2 [] (prr pb tb n n) rfl rfl O2.out R2.out (prr_one _ _ _ _) (by have := Hn.out; omega) (by have := S2.out; omega) ?_; intro v' w3 h1 h2 h3; rw [Nat.zero_add, List.nil_append] at h1))
        have hob : (Value.slice (some ⟨W.heap.size, 0, none⟩) 0 1).ownBlock = some W.heap.size := rfl
        have G3 : Gr (fun i => i = W.heap.size) w2 w3 := Gr.of_grown h2 (fun k e => by rw [hob] at e; cases e; rfl)
        have hsz3 := G3.size
        refine ⟨Lib.hid (.inr ⟨0, m0, R0, Nat.zero_le _, by rw [Nat.sub_zero, List.take_of_length_le (by rw [prr_len]; exact Nat.le_refl _)]; exact h1, M2.out.gr G3 (by omega), by rw [List.drop_zero]; exact Hq.out, HR.out, Nat.le_add_right _ _, (G2.out.trans' G3 (fun i hi e => by omega)).mono (fun _ _ e => e.elim), by have := S2.out; omega⟩), ?_⟩
        obtain ⟨av, cv, rfl⟩ := ownsRow_sv h1
        rw [if_neg (by have := S2.out; omega), if_pos (by simp)]
        show n < 1000
        have := Hn.out; omega
      · go_wp2_with fail
        go_quiet (fail)
        go_wp2_with fail
        generalize hX : World.drewN (World.alloc (World.alloc W _) _) nq = X1
        have gX : Gr (fun _ => False) W X1 := hX ▸ (((Gr.alloc W (.cells #[ptr gp op, ptr gt ot] 65) _).trans (Gr.alloc _ (.cells #[ptr gp op, ptr gt ot] 65) _)).trans (Gr.drewN _ _ _))
        have oX : X1.ownsRow W.heap.size 65 2 (.slice (some ⟨W.heap.size, 0, none⟩) 1 1) 1 [ptr gp op, ptr gt ot] := hX ▸ ownsRow_gr (World.ownsRow_lit (base := W.heap.size) (e := 65) (size := 2) W #[ptr gp op, ptr gt ot] 1 (Nat.le_refl _) (by unfold maxLen; omega) rfl) ((Gr.alloc (W.alloc (.cells #[ptr gp op, ptr gt ot] 65)) (.cells #[ptr gp op, ptr gt ot] 65) (fun _ => False)).trans (Gr.drewN _ _ _)) (fun _ _ e => e)
        have sX : X1.heap.size = W.heap.size + 2 := by rw [← hX]; show ((W.alloc _).alloc _).heap.size = _; simp
        have FX := HF.out.g0 gX
        have oX0 := row_cut oX (Nat.zero_le 1)
        have hcall := Lib.hid (elements_c X1 gp op gt ot pb n pc tb tc pa ta Hn.out FX.pz FX.tz FX.lp FX.lt)
        have MX := Lib.hid (HM.out.gr gX (fun e => e))
        have GX := Lib.hid gX
        have OX : Hid (X1.ownsRow W.heap.size 65 2 (.slice (some ⟨W.heap.size, 0, none⟩) 0 1) 0 []) := Lib.hid oX0
        have SX := Lib.hid sX
        clear hX gX oX oX0 FX sX hkp hkt hlp hlt
        refine hcall.out.mono ?_
        rintro e w2 ⟨v2, rfl, hrow2, g2⟩
        have O2 := Lib.hid (ownsRow_gr OX.out g2 (fun _ _ e => e))
        have R2 := Lib.hid hrow2
        have M2 := Lib.hid (MX.out.gr g2 (fun e => e))
        have G2 := Lib.hid (GX.out.trans g2)
        have S2 : Hid (W.heap.size + 2 ≤ w2.heap.size) := Lib.hid (by have := g2.size; have := SX.out; omega)
        clear hrow2 g2 hcall OX MX GX
        go_wp2_with (first
          | (at_builtin; refine wpList_two _ rfl _ _ rfl W.heap.size X1.heap.size 0 n (.slice (some ⟨W.heap.size, 0, none⟩) 0 1) v2 [] (prr pb tb n n) rfl rfl O2.out R2.out (prr_one _ _ _ _) (by have := Hn.out; omega) (by have := S2.out; omega) ?_; intro v' w3 h1 h2 h3; rw [Nat.zero_add, List.nil_append] at h1))
        have hob : (Value.slice (some ⟨W.heap.size, 0, none⟩) 0 1).ownBlock = some W.heap.size := rfl
        have G3 : Gr (fun i => i = W.heap.size) w2 w3 := Gr.of_grown h2 (fun k e => by rw [hob] at e; cases e; rfl)
        have hsz3 := G3.size
        refine ⟨Lib.hid (.inr ⟨0, m0, R0, Nat.zero_le _, by rw [Nat.sub_zero, List.take_of_length_le (by rw [prr_len]; exact Nat.le_refl _)]; exact h1, M2.out.gr G3 (by omega), by rw [List.drop_zero]; exact Hq.out, HR.out, Nat.le_add_right _ _, (G2.out.trans' G3 (fun i hi e => by omega)).mono (fun _ _ e => e.elim), by have := S2.out; omega⟩), ?_⟩
        obtain ⟨av, cv, rfl⟩ := ownsRow_sv h1
        rw [if_neg (by have := S2.out; omega), if_pos (by simp)]
        show n < 1000
        have := Hn.out; omega
    · clear hrel
      have Hj := Lib.hid hj
      have Hrow := Lib.hid hrow
      have HMj := Lib.hid hMj
      have Hqj := Lib.hid hqj
      have HRj := Lib.hid hRj
      have Hmj := Lib.hid hmj
      have Hg := Lib.hid hg
      have Hsz := Lib.hid hsz
      clear hj hrow hMj hqj hRj hmj hg hsz
      have hn0 : (0 : Int) ≤ (n : Int) := by omega
      have hnI : (n : Int) ≤ 256 := by have := Hn.out; omega
      rcases Nat.lt_or_ge j n with hjn | hjn
      case inr =>
        have e : j = n := by have := Hj.out; omega
        subst e
        obtain ⟨av, cv, rfl⟩ := ownsRow_sv Hrow.out
        have eq : q = (true, mj, Rj) := by
          rw [Hqj.out, List.drop_eq_nil_of_le (by rw [List.length_zip, HF.out.nl, HF.out.vl]; omega), fitR]
        subst eq
        have e0 : j - j = 0 := Nat.sub_self j
        rw [e0]
        clear hjn
        go_wp2_with fail
        rw [Exit.noGoto_ret]
        go_ret
        exact ⟨rfl, HMj.out, Hg.out⟩
      case inl =>
        obtain ⟨l, hl⟩ : ∃ l, n - j = l + 1 := ⟨n - j - 1, by omega⟩
        rw [hl] at Hrow
        obtain ⟨lb, cap, rfl⟩ := row_form Hrow.out (Nat.succ_pos l)
        have hjl : n - 1 - l = j := by omega
        have hget := prr_get pb tb n n l (by omega)
        rw [hjl] at hget
        have c0 := row_cell Hrow.out (q := l * 2) (by rw [List.getElem?_take_of_lt (by omega)]; exact hget.1)
        have c1 := row_cell Hrow.out (q := l * 2 + 1) (by rw [List.getElem?_take_of_lt (by omega)]; exact hget.2)
        obtain ⟨c0, lb1, lcap⟩ := c0
        have c1 := c1.1
        have hlb : W.heap.size ≤ lb := (ownsRow_lt Hrow.out lb rfl).1
        have hlcI : ((l + 1 : Nat) : Int) ≤ (cap : Int) := by omega
        have hlI : (l : Int) ≤ 256 := by have := Hn.out; omega
        have hl0 : (0 : Int) ≤ (l : Int) := by omega
        obtain ⟨s, hs⟩ : ∃ s, ns[j]? = some s := ⟨_, List.getElem?_eq_getElem (by rw [HF.out.nl]; exact hjn)⟩
        obtain ⟨v, hv⟩ : ∃ v, vs[j]? = some v := ⟨_, List.getElem?_eq_getElem (by rw [HF.out.vl]; exact hjn)⟩
        have hsm := List.mem_of_getElem? hs
        have hss := Hz.out s hsm
        have FR := HF.out.gr Hg.out (fun g o u hu => HM.out.ne hu)
        obtain ⟨a1, d1, a2, d2, hNs⟩ := FR.pv j s hs
        obtain ⟨hNt, hIv⟩ := FR.tv j v hv
        have hzip : (ns.zip vs).drop j = (s, v) :: (ns.zip vs).drop (j + 1) := by
          have h1 : (ns.zip vs)[j]? = some (s, v) := by rw [List.getElem?_zip_eq_some]; exact ⟨hs, hv⟩
          obtain ⟨h2, h3⟩ := List.getElem?_eq_some_iff.1 h1
          rw [List.drop_eq_getElem_cons h2, h3]
        have Hq2 : Hid (q = fitR ((s, v) :: (ns.zip vs).drop (j + 1)) mj Rj) := Lib.hid (by rw [Hqj.out, hzip])
        obtain ⟨p, b1, e1, b2, e2, rfl, hp⟩ := hIv
        obtain ⟨f0, f1, f2, f3, f4, f5, f6, f7, f8⟩ := hNs.facts
        have hpl := hNs.lt
        have Hjn := Lib.hid hjn
        have Hl := Lib.hid hl
        have Hp := Lib.hid hp
        have HNt := Lib.hid hNt
        have hmlt : mb < wr.heap.size := Nat.lt_of_lt_of_le hmb Hg.out.size
        have Hcut := Lib.hid (row_cut Hrow.out (Nat.le_succ l))
        have Htk : Hid (((prr pb tb n n).take ((l + 1) * 2)).take (l * 2) = (prr pb tb n n).take (l * 2)) := Lib.hid (by rw [List.take_take, Nat.min_eq_left (by omega)])
        clear hNs hNt hp hget hzip Hqj FR hs hv hjn hl Hrow hjl lcap
        cases hRs : Rj s with
        | none =>
          have hmeet := Lib.hid (fun w (g : Gr (fun _ => False) wr w) => meet_new w mb mj Rj (HMj.out.gr g (fun e => e)) s hss (by have := Hmj.out; have := Hm.out; have := Hj.out; have := Hn.out; omega) hRs tb (j * 9) 1 p 0 0 e0 0 0 0 b1 0 e1 b2 0 e2 (HNt.out.gr g))
          have Hq3 : Hid (q = fitR ((ns.zip vs).drop (j + 1)) (mj + 1) (ins Rj s (iv p b1 e1 b2 e2))) := Lib.hid (by rw [Hq2.out, fitR, hRs])
          clear Hq2 hRs
          go_wp2_with fail
          go_region_with (first | (go_at_call 27; refine (hmeet.out _ ((Gr.alloc _ _ _).trans (Gr.drew _ _))).mono ?_; rintro e w2 ⟨rfl, hM2, hg2⟩) | fail)
          all_goals
            have GW : Gr (fun i => i = mb) wr w2 := ((Gr.alloc wr _ _).trans (Gr.drew _ _)).trans hg2
            have O2 := Lib.hid (ownsRow_gr Hcut.out GW (fun k h e => by omega))
            have M2 := Lib.hid (hM2)
            have G2 := Lib.hid (Hg.out.trans GW)
            have S2 : Hid (W.heap.size + 1 < w2.heap.size) := Lib.hid (by have := GW.size; have := Hsz.out; omega)
            clear GW
            go_wp2_with (first
              | (at_builtin; refine wpList_two _ rfl _ _ rfl W.heap.size 0 l 0 (.slice (some ⟨lb, 0, none⟩) l cap) (.slice none 0 0) _ [] rfl rfl O2.out (World.ownsRow_nil _ _ _ _) (by simp) (by omega) (by have := S2.out; omega) ?_; intro v' w3 h1 h2 h3; rw [Nat.add_zero, List.append_nil, Htk.out] at h1))
            have G3 : Gr (fun i => i = lb) w2 w3 := Gr.of_grown h2 (fun k e => by have e' : some lb = some k := e; cases e'; rfl)
            have hsz3 := G3.size
            have hl3 : n - (j + 1) = l := by have := Hl.out; omega
            refine ⟨Lib.hid (.inr ⟨j + 1, mj + 1, ins Rj s (iv p b1 e1 b2 e2), Hjn.out, by rw [hl3]; exact h1, M2.out.gr G3 (by omega), Hq3.out, fun s' hs' v0 hv0 => by
              by_cases e : s' = s
              · rw [e, ins_same] at hv0; cases hv0; exact ⟨_, _, _, _, _, rfl, Hp.out⟩
              · rw [ins_other _ _ e] at hv0; exact HRj.out s' hs' v0 hv0, by have := Hmj.out; omega, G2.out.trans' G3 (fun i hi e => by omega), by have := S2.out; omega⟩), ?_⟩
            obtain ⟨av, cv, rfl⟩ := ownsRow_sv h1
            rw [if_neg (by have := S2.out; omega), if_neg (by have := Hsz.out; omega)]
            show l < l + 1
            omega
        | some v0 =>
          obtain ⟨p0, x1, y1, x2, y2, rfl, hp0⟩ := HRj.out s (by assumption) v0 hRs
          have hmeet := Lib.hid (fun w (g : Gr (fun _ => False) wr w) => meet_known HS.out w mb mj Rj (HMj.out.gr g (fun e => e)) s hss tb (j * 9) p0 p x1 y1 x2 y2 b1 e1 b2 e2 hRs (HNt.out.gr g) hp0 Hp.out)
          by_cases hpp : p0 = p
          · subst hpp
            have Hq3 : Hid (q = fitR ((ns.zip vs).drop (j + 1)) mj Rj) := Lib.hid (by rw [Hq2.out, fitR, hRs]; exact if_pos rfl)
            rw [show (p0 == p0) = true by simp] at hmeet
            clear Hq2 hRs
            go_wp2_with fail
            go_region_with (first | (go_at_call 27; refine (hmeet.out _ ((Gr.alloc _ _ _).trans (Gr.drew _ _))).mono ?_; rintro e w2 ⟨rfl, hg2⟩) | fail)
            all_goals
              have GW : Gr (fun i => i = mb) wr w2 := (((Gr.alloc wr _ _).trans (Gr.drew _ _)).trans hg2).mono (fun _ _ e => e.elim)
              have O2 := Lib.hid (ownsRow_gr Hcut.out GW (fun k h e => by omega))
              have M2 := Lib.hid (HMj.out.gr (((Gr.alloc wr _ _).trans (Gr.drew _ _)).trans hg2) (fun e => e))
              have G2 := Lib.hid (Hg.out.trans GW)
              have S2 : Hid (W.heap.size + 1 < w2.heap.size) := Lib.hid (by have := GW.size; have := Hsz.out; omega)
              clear GW
              go_wp2_with (first
                | (at_builtin; refine wpList_two _ rfl _ _ rfl W.heap.size 0 l 0 (.slice (some ⟨lb, 0, none⟩) l cap) (.slice none 0 0) _ [] rfl rfl O2.out (World.ownsRow_nil _ _ _ _) (by simp) (by omega) (by have := S2.out; omega) ?_; intro v' w3 h1 h2 h3; rw [Nat.add_zero, List.append_nil, Htk.out] at h1))
              have G3 : Gr (fun i => i = lb) w2 w3 := Gr.of_grown h2 (fun k e => by have e' : some lb = some k := e; cases e'; rfl)
              have hsz3 := G3.size
              have hl3 : n - (j + 1) = l := by have := Hl.out; omega
              refine ⟨Lib.hid (.inr ⟨j + 1, mj, Rj, Hjn.out, by rw [hl3]; exact h1, M2.out.gr G3 (by omega), Hq3.out, HRj.out, by have := Hmj.out; omega, G2.out.trans' G3 (fun i hi e => by omega), by have := S2.out; omega⟩), ?_⟩
              obtain ⟨av, cv, rfl⟩ := ownsRow_sv h1
              rw [if_neg (by have := S2.out; omega), if_neg (by have := Hsz.out; omega)]
              show l < l + 1
              omega
          · have eq : q = (false, mj, Rj) := by rw [Hq2.out, fitR, hRs]; exact if_neg hpp
            subst eq
            rw [show (p0 == p) = false by simpa using hpp] at hmeet
            clear Hq2 hRs hpp
            have hl1 : ((l : Int) + 1 == 0) = false := by simp; omega
            go_wp2_with fail
            go_region_with (first | (go_at_call 27; refine (hmeet.out _ ((Gr.alloc _ _ _).trans (Gr.drew _ _))).mono ?_; rintro e w2 ⟨rfl, hg2⟩) | fail)
            all_goals
              have GW : Gr (fun _ => False) wr w2 := ((Gr.alloc wr _ _).trans (Gr.drew _ _)).trans hg2
              go_wp2_with fail
              rw [Exit.noGoto_ret]
              go_ret
              exact ⟨rfl, HMj.out.gr GW (fun e => e), Hg.out.trans (GW.mono (fun _ _ e => e.elim))⟩
end Go.Proofs.Ytfamepdghememaa

