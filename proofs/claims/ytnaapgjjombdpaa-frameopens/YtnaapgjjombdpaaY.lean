/-
  The reference's Open.
-/
import Derived.Test.YtnaapgjjombdpaaV
import Derived.Test.YtnaapgjjombdpaaQ
import Derived.Deep.CutRange
namespace Go.Proofs.Ytnaapgjjombdpaa
open Go.RowKit Go.Maps
variable {S S' : Nat → Prop} {W W1 W' : World}

abbrev obE : Obj := .cells #[] 5
abbrev obZ : Obj := .cells #[.int .i64 0, .int .i64 0, .int .u32 0, .slice none 0 0] 28
/-- What is kept while the frame is made. -/
structure Gd (W wc w : World) : Prop where
  k : Kp W w
  n : Gr (fun k => wc.heap.size ≤ k) wc w
theorem Gd.g {wc w : World} (h : Gd W wc w) : G0 W w := h.k.g
theorem Gd.of {wc w : World} (h : Kp W wc) (n : Gr (fun k => wc.heap.size ≤ k) wc w) : Gd W wc w :=
  ⟨⟨h.g.new n h.g.size, (n.block _ h.lt (by have := h.lt; omega)).trans h.b⟩, n⟩
theorem Ow.ne {base B : Nat} {v : Value} {l : List Nat} {c : Array Value} {z : Nat × Nat} (h : Ow base W v l) (hz : W.heap[B]? = some (.cells c 28 z)) (k : Nat) (hk : v.ownBlock = some k) : k ≠ B := by
  rintro rfl
  rcases h.row.2 with ⟨h1, _⟩ | ⟨g, cap, cur, rfl, hb, hg, _⟩
  · rw [h1] at hk; cases hk
  · obtain rfl : g = k := by simpa [Value.ownBlock] using hk
    rw [hz] at hg
    simp at hg
theorem Gd.shut {wc w2 : World} {B n c' : Nat} {a' : Option Addr} {l : List Nat} {x y z : Value} (hk : Kp W wc) (hn : Gr (fun k => wc.heap.size ≤ k) wc w2)
    (hZ : w2.heap[B]? = some obZ) (ho : Ow wc.heap.size w2 (.slice a' n c') l) (hB : wc.heap.size ≤ B) :
    ∃ (B' : Nat) (a'' : Option Addr) (c'' : Nat), Value.pointer (some ⟨B, 0, none⟩) = .pointer (some ⟨B', 0, none⟩) ∧ Kp W ((((w2.setCell ⟨B, 0, none⟩ x).setCell ⟨B, 1, none⟩ y).setCell ⟨B, 2, none⟩ z).setCell ⟨B, 3, none⟩ (.slice a' n c')) ∧ W.heap.size < B' ∧
      ((((w2.setCell ⟨B, 0, none⟩ x).setCell ⟨B, 1, none⟩ y).setCell ⟨B, 2, none⟩ z).setCell ⟨B, 3, none⟩ (.slice a' n c')).heap[B']? = some (.cells #[x, y, z, .slice a'' n c''] 28 (0, 0)) ∧
      Ow W.heap.size ((((w2.setCell ⟨B, 0, none⟩ x).setCell ⟨B, 1, none⟩ y).setCell ⟨B, 2, none⟩ z).setCell ⟨B, 3, none⟩ (.slice a' n c')) (.slice a'' n c'') l := by
  have h4 := gr4 w2 B x y z (.slice a' n c')
  have hlt := hk.lt
  refine ⟨B, a', c', rfl, (Gd.of hk (hn.trans (h4.mono (fun i _ e => by omega)))).k, by omega, set4 hZ x y z _, ?_⟩
  exact (ho.gr h4 (fun k _ hk e => ho.ne hZ k hk e)).mono (Nat.le_of_lt hlt)
theorem low4_iff (l : List Nat) (hb : ∀ x ∈ l, x < 256) (n : Nat) (hn : l.length = n + 12) (s : Nat) : (l.drop (n + 8)).take 4 = low4 s ↔ num4 l (n + 8) = s := by
  obtain ⟨x0, x1, x2, x3, x4, x5, x6, x7, m, y0, y1, y2, y3, rfl⟩ := ent_of l (by omega)
  rw [ent_len] at hn
  obtain rfl : m.length = n := by omega
  rw [ent_num]
  have hd : (ent x0 x1 x2 x3 x4 x5 x6 x7 m y0 y1 y2 y3).drop (m.length + 8) = [y0, y1, y2, y3] := by
    have : m.length + 8 = (x0 :: x1 :: x2 :: x3 :: x4 :: x5 :: x6 :: x7 :: m).length := by simp
    rw [this, List.drop_left]
  rw [hd, low4]
  have r0 := hb y0 (by simp)
  have r1 := hb y1 (by simp)
  have r2 := hb y2 (by simp)
  have r3 := hb y3 (by simp)
  simp only [List.take, List.cons.injEq, and_true]
  omega

set_option maxRecDepth 20000 in
set_option maxHeartbeats 1600000 in
theorem ropen_short (W : World) (v : Value) (l : List Nat) (h : Sl W v l) (h12 : l.length < 12) :
    Calls Try.prog 18 #[v] W fun e w' => EndO W l e w' := by
  have ho : opn l = 63 := by simp [opn, h12]
  have hI : (l.length : Int) < 12 := by omega
  have hl := h.len
  obtain ⟨a, cap, rfl, h1, h2, -⟩ := h.sv
  replace ho := Lib.hid ho
  go_enter Try.func18, Try.ntmps18
  go_wp2
  refine bodyPost_ret (v := .tuple #[fr 0 0 0 (.slice none 0 0), .int .i64 63]) (by simp [results, Try.results18, go_sem]) rfl (EndO.no ho.out (by decide) (Gr.alloc _ _ _))

set_option maxRecDepth 20000 in
set_option maxHeartbeats 1600000 in
theorem ropen_long (W : World) (v : Value) (l : List Nat) (h : Sl W v l) (h12 : 1212 < l.length) :
    Calls Try.prog 18 #[v] W fun e w' => EndO W l e w' := by
  have ho : opn l = 62 := by rw [opn, if_neg (by omega), if_pos h12]
  have hI : ¬ (l.length : Int) < 12 := by omega
  have hI2 : (1212 : Int) < (l.length : Int) := by omega
  have hl := h.len
  obtain ⟨a, cap, rfl, h1, h2, -⟩ := h.sv
  replace ho := Lib.hid ho
  go_enter Try.func18, Try.ntmps18
  go_wp2
  refine bodyPost_ret (v := .tuple #[fr 0 0 0 (.slice none 0 0), .int .i64 62]) (by simp [results, Try.results18, go_sem]) rfl (EndO.no ho.out (by decide) (Gr.alloc _ _ _))

set_option maxRecDepth 20000 in
set_option maxHeartbeats 4000000 in
theorem ropen_main (W : World) (v : Value) (l : List Nat) (h : Sl W v l) (h12 : 12 ≤ l.length) (hl : l.length ≤ 1212) :
    Calls Try.prog 18 #[v] W fun e w' => EndO W l e w' := by
  obtain ⟨a, cap, rfl, h1, h2, h3⟩ := h.sv
  obtain ⟨b, off, rfl, h5⟩ := h3 (List.ne_nil_of_length_pos (by omega))
  have hb := h.byte
  obtain ⟨n, hn⟩ : ∃ n, l.length = n + 12 := ⟨l.length - 12, by omega⟩
  have c0 := h5 0 (by omega)
  have c1 := h5 1 (by omega)
  have c2 := h5 2 (by omega)
  have c3 := h5 3 (by omega)
  have x2 := getD_lt hb 2
  have x3 := getD_lt hb 3
  have hsb8 := h.sub 8 (n + 8) (by omega) (by omega)
  rw [Nat.add_sub_cancel] at hsb8
  have hbd : (l.drop 8).take n = body l := by rw [body, hn]; rfl
  rw [hbd] at hsb8
  have hof := fun W h => of_r W (.slice (some ⟨b, off, none⟩) (n + 12) cap) l h (by omega)
  have hbl : (body l).length = n := by simp [body]; omega
  have hck := fun W a cap => check_r W (l.getD 2 0 : Nat) (l.getD 3 0 : Nat) (hi4 l 4 : Nat) a n cap (by omega)
  rw [Nat.add_zero] at c0
  have hsub := h.sub 0 (n + 8) (by omega) (by omega)
  rw [Nat.add_zero, Nat.sub_zero, Nat.sub_zero, List.drop_zero] at hsub
  have hsb4 := h.sub (n + 8) (n + 12) (by omega) (by omega)
  rw [show n + 12 - (n + 8) = 4 by omega] at hsb4
  have hiff := low4_iff l hb n hn (sum (l.take (n + 8)))
  have hsm := fun W h => sum_r W (.slice (some ⟨b, off, none⟩) (n + 8) cap) (l.take (n + 8)) h
  have hlo := fun W => low_r W (sum (l.take (n + 8))) (sum_lt _ (fun x hx => hb x (List.mem_of_mem_take hx)))
  have hsl := sum_lt _ (fun x hx => hb x (List.mem_of_mem_take (i := n + 8) hx))
  obtain ⟨q, hq⟩ : ∃ q, decide (num4 l (n + 8) = sum (l.take (n + 8))) = q := ⟨_, rfl⟩
  have hbq : ((str ((l.drop (n + 8)).take 4)).toList == (str (low4 (sum (l.take (n + 8))))).toList) = q := by
    rw [str_beq hsb4.byte (low4_byte hsl), ← hq]; exact decide_eq_decide.2 hiff
  have O1 : Hid (q = false → opn l = 64) := Lib.hid (fun e => by
    rw [opn, if_neg (by omega), if_neg (by omega), hn, show n + 12 - 4 = n + 8 by omega, if_pos (by rw [e] at hq; simpa using hq)])
  have O2 : Hid (q = true → l.getD 0 0 ≠ 82 ∨ l.getD 1 0 ≠ 75 → opn l = 65) := Lib.hid (fun e h => by
    rw [opn, if_neg (by omega), if_neg (by omega), hn, show n + 12 - 4 = n + 8 by omega, if_neg (by rw [e] at hq; simpa using hq), if_pos h])
  have O3 : Hid (q = true → l.getD 0 0 = 82 → l.getD 1 0 = 75 → opn l = chk (l.getD 2 0 : Nat) (l.getD 3 0 : Nat) (hi4 l 4 : Nat) n) := Lib.hid (fun e h h' => by
    rw [opn, if_neg (by omega), if_neg (by omega), hn, show n + 12 - 4 = n + 8 by omega, if_neg (by rw [e] at hq; simpa using hq), if_neg (by rw [h, h']; simp)]; rfl)
  clear hq
  have hcb := fun w (g : G0 W w) => conv (hsb4.g0 g)
  clear hiff
  generalize low4 (sum (l.take (n + 8))) = M4 at *
  generalize (l.drop (n + 8)).take 4 = L4 at *
  generalize sum (l.take (n + 8)) = y at *
  rw [hn] at h1 h ⊢
  have s1 : (n : Int) + 12 - 4 = (n : Int) + 8 := by omega
  have s2 : (n : Int) + 8 ≤ (n : Int) + 12 := by omega
  have s3 : (n : Int) + 8 ≤ (cap : Int) := by omega
  have s4 : 0 ≤ (n : Int) + 8 := by omega
  have s6 : ((n : Int) + 8).toNat = n + 8 := by omega
  have s7 : ¬ cap = 0 := by omega
  have s8 : ¬ cap = n + 8 := by omega
  have v1 : IntKind.i64.wrap ((n : Int) + 8) = (n : Int) + 8 := by rw [IntKind.wrap_i64]; omega
  have v2 : wrap64 ((n : Int) + 8) = (n : Int) + 8 := by rw [← IntWalk.i64_left]; exact v1
  have v3 : IntKind.i64.wrap ((n : Int) + 12 - 4) = (n : Int) + 8 := by rw [s1]; exact v1
  have v4 : wrap64 ((n : Int) + 12 - 4) = (n : Int) + 8 := by rw [← IntWalk.i64_left]; exact v3
  have t1 : ¬ (n : Int) + 12 < 12 := by omega
  have t2 : ¬ (1212 : Int) < (n : Int) + 12 := by omega
  have t3 : (n : Int) ≤ 1200 := by omega
  have hsz : (n : Int) + 12 ≤ 100000 := by omega
  clear h3 h5 hb hn h12 hl hsl hbd
  go_enter Try.func18, Try.ntmps18
  go_upto_region 6 with fail
  have k0 := Kp.new W
  have kd : Kp W ((W.alloc (.cells #[.int .i64 0, .int .i64 0, .int .u32 0, .slice none 0 0] 28)).drew) := k0.step (Gr.drew _ _)
  generalize W.alloc (.cells #[.int .i64 0, .int .i64 0, .int .u32 0, .slice none 0 0] 28) = W0 at *
  have cb0 := hcb _ kd.g
  go_cut [28] from 18 to 27 (fun s28 wx => s28 = .bool (!q) ∧ Kp W wx)
  case first =>
    go_region_with (first
      | (go_at_call 11; refine (hsm _ (hsub.g0 kd.g)).mono ?_; rintro e w1 ⟨rfl, rfl⟩)
      | (go_at_call 23; refine (hlo _).mono ?_; rintro e w2 ⟨g2, rfl, ow2, hg2⟩; have k2 := kd.step hg2; have cb2 := hcb _ k2.g; have cv2 := conv ow2.sl))
    all_goals (go_wp2_with fail; go_meet; exact ⟨by rw [← hbq], k2⟩)
  case rest =>
  obtain ⟨rfl, hk1⟩ := hcut
  have d0 := hk1.cell c0
  have d1 := hk1.cell c1
  have d2 := hk1.cell c2
  have d3 := hk1.cell c3
  clear cb0 hcb hsm hlo hsb4 hbq k0 kd hsub c0 c1
  have z4 := zero4 rfl hk1.b
  rcases q with _ | _ <;> simp only [Bool.not_false, Bool.not_true]
  · have ho := Lib.hid (O1.out rfl)
    have hb4 := set4 hk1.b (.int .i64 0) (.int .i64 0) (.int .u32 0) (.slice none 0 0)
    have hg4 := gr4 wc W.heap.size (.int .i64 0) (.int .i64 0) (.int .u32 0) (.slice none 0 0)
    obtain ⟨p0, p1, p2, p3⟩ := fr_cells hb4
    go_wp2
    exact bodyPost_ret (v := .tuple #[fr 0 0 0 (.slice none 0 0), .int .i64 64]) (by simp [results, Try.results18, go_sem, p0, p1, p2, p3]) rfl (EndO.no ho.out (by decide) (hk1.g.trans' hg4 (fun i hi e => by omega)))
  · by_cases m0 : l.getD 0 0 = 82
    · by_cases m1 : l.getD 1 0 = 75
      · have ho := Lib.hid (O3.out rfl m0 m1)
        rw [m0] at d0
        rw [m1] at d1
        clear O1 O2 O3 m0 m1
        have b0 : (0 : Int) < (n : Int) + 12 := by omega
        have b1 : (1 : Int) < (n : Int) + 12 := by omega
        have b2 : (2 : Int) < (n : Int) + 12 := by omega
        have b3 : (3 : Int) < (n : Int) + 12 := by omega
        have hb8 := hsb8
        generalize hgy2 : l.getD 2 0 = y2 at *
        generalize hgy3 : l.getD 3 0 = y3 at *
        generalize hgr : hi4 l 4 = r at *
        replace hgy2 := Lib.hid hgy2
        replace hgy3 := Lib.hid hgy3
        replace hgr := Lib.hid hgr
        have hgc2 := Lib.hid c2
        have hgc3 := Lib.hid c3
        clear c2 c3
        have a2 : IntKind.i64.wrap (y2 : Int) = y2 := by rw [IntKind.wrap_i64]; omega
        have a3 : IntKind.i64.wrap (y3 : Int) = y3 := by rw [IntKind.wrap_i64]; omega
        have s9 : ¬ cap = 8 := by omega
        have s10 : (8 : Int) ≤ (n : Int) + 8 := by omega
        have s11 : ((n : Int) + 8).toNat - 8 = n := by omega
        go_upto_region 10 with fail
        go_cut [5] from 29 to 56 (fun s5 wx => ∃ (B : Nat) (a' : Option Addr) (c' : Nat), s5 = .pointer (some ⟨B, 0, none⟩) ∧ Kp W wx ∧ W.heap.size < B ∧ wx.heap[B]? = some (.cells #[.int .i64 (y2 : Int), .int .i64 (y3 : Int), .int .u32 (r : Int), .slice a' n c'] 28 (0, 0)) ∧ Ow W.heap.size wx (.slice a' n c') (body l))
        case first =>
          have c2' := hgc2.out
          have c3' := hgc3.out
          have sD : Sl wc.drew (.slice (some ⟨b, off, none⟩) (n + 12) cap) l := h.g0 (hk1.g.trans (Gr.drew _ _))
          have sE : Sl (wc.alloc obE).drew (.slice (some ⟨b, off, none⟩) (n + 12) cap) l := h.g0 ((hk1.g.trans (Gr.alloc _ _ _)).trans (Gr.drew _ _))
          have sZ : Sl (wc.alloc obZ).drew (.slice (some ⟨b, off, none⟩) (n + 12) cap) l := h.g0 ((hk1.g.trans (Gr.alloc _ _ _)).trans (Gr.drew _ _))
          have sEZ : Sl ((wc.alloc obE).alloc obZ).drew (.slice (some ⟨b, off, none⟩) (n + 12) cap) l := h.g0 (((hk1.g.trans (Gr.alloc _ _ _)).trans (Gr.alloc _ _ _)).trans (Gr.drew _ _))
          have sZE : Sl ((wc.alloc obZ).alloc obE).drew (.slice (some ⟨b, off, none⟩) (n + 12) cap) l := h.g0 (((hk1.g.trans (Gr.alloc _ _ _)).trans (Gr.alloc _ _ _)).trans (Gr.drew _ _))
          have oE : Ow wc.heap.size (wc.alloc obE).drew (.slice (some ⟨wc.heap.size, 0, none⟩) 0 0) [] := (Ow.lit wc.heap.size wc [] (by simp) (by simp) (Nat.le_refl _) #[] rfl 0 rfl).g0 (Gr.drew _ _)
          have eE := hsb8.g0 ((hk1.g.trans (Gr.alloc wc obE _)).trans (Gr.drew _ _))
          have GE : Gr (fun k => wc.heap.size ≤ k) wc (wc.alloc obE).drew := (Gr.alloc _ _ _).trans (Gr.drew _ _)
          have hs1 : (wc.alloc obE).heap.size = wc.heap.size + 1 := by simp
          have hs2 : (wc.alloc obZ).heap.size = wc.heap.size + 1 := by simp
          have oEZ : Ow wc.heap.size ((wc.alloc obE).alloc obZ).drew (.slice (some ⟨wc.heap.size, 0, none⟩) 0 0) [] := ((Ow.lit wc.heap.size wc [] (by simp) (by simp) (Nat.le_refl _) #[] rfl 0 rfl).g0 (Gr.alloc _ _ _)).g0 (Gr.drew _ _)
          have eEZ := hsb8.g0 (((hk1.g.trans (Gr.alloc wc obE _)).trans (Gr.alloc _ obZ _)).trans (Gr.drew _ _))
          have GEZ : Gr (fun k => wc.heap.size ≤ k) wc ((wc.alloc obE).alloc obZ).drew := ((Gr.alloc _ _ _).trans (Gr.alloc _ _ _)).trans (Gr.drew _ _)
          have zEZ : ((wc.alloc obE).alloc obZ).drew.heap[wc.heap.size + 1]? = some obZ := by
            have := heap_alloc_new (wc.alloc obE) obZ
            rw [hs1] at this
            exact this
          have oZE : Ow wc.heap.size ((wc.alloc obZ).alloc obE).drew (.slice (some ⟨wc.heap.size + 1, 0, none⟩) 0 0) [] := by
            have := (Ow.lit wc.heap.size (wc.alloc obZ) [] (by simp) (by simp) (by rw [hs2]; omega) #[] rfl 0 rfl).g0 (Gr.drew _ _)
            rw [hs2] at this
            exact this
          have eZE := hsb8.g0 (((hk1.g.trans (Gr.alloc wc obZ _)).trans (Gr.alloc _ obE _)).trans (Gr.drew _ _))
          have GZE : Gr (fun k => wc.heap.size ≤ k) wc ((wc.alloc obZ).alloc obE).drew := ((Gr.alloc _ _ _).trans (Gr.alloc _ _ _)).trans (Gr.drew _ _)
          have zZE : ((wc.alloc obZ).alloc obE).drew.heap[wc.heap.size]? = some obZ := by
            have := heap_alloc_old (wc.alloc obZ) obE (show wc.heap.size < (wc.alloc obZ).heap.size by rw [hs2]; omega)
            exact this.trans (heap_alloc_new wc obZ)
          have hbW : b < W.heap.size := World.block_lt_of_cell? W _ c2'
          have hWc := hk1.lt
          have hn1 : b ≠ wc.heap.size := by omega
          have hn2 : b ≠ wc.heap.size + 1 := by omega
          have hn3 : wc.heap.size ≠ b := by omega
          have hn4 : wc.heap.size + 1 ≠ b := by omega
          clear hs1 hs2
          go_region_held3 (fun w' => w'.cell? ⟨b, off + 2, none⟩ = some (.int .u8 (y2 : Int)) ∧ w'.cell? ⟨b, off + 3, none⟩ = some (.int .u8 (y3 : Int))) (go_keep)
            (first
              | (go_at_call 26; refine (hof _ ?_).mono ?_; (first | exact sD | exact sE | exact sZ | exact sEZ | exact sZE | exact h.g0 (Gd.g (by assumption))); rintro e w1 ⟨rfl, rfl⟩)
              | (refine step_app rfl _ _ rfl wc.heap.size (.slice (some ⟨wc.heap.size, 0, none⟩) 0 0) _ [] (body l) rfl rfl oE eE (by rw [hbl]; simp; omega) (by simp; try omega) ?_; intro v2 w2 o2 g2; rw [List.nil_append] at o2; obtain ⟨a', c', rfl⟩ := o2.sv; rw [hbl] at o2 ⊢; have hd2 := Gd.of hk1 ((GE.trans (oE.grown g2))); have q2 := hd2.g.cell c2' (fun e => e); have q3 := hd2.g.cell c3' (fun e => e); have hZ := hd2.n.size)
              | (refine step_app rfl _ _ rfl wc.heap.size (.slice (some ⟨wc.heap.size, 0, none⟩) 0 0) _ [] (body l) rfl rfl oEZ eEZ (by rw [hbl]; simp; omega) (by simp; try omega) ?_; intro v2 w2 o2 g2; rw [List.nil_append] at o2; obtain ⟨a', c', rfl⟩ := o2.sv; rw [hbl] at o2 ⊢; have hd2 := Gd.of hk1 ((GEZ.trans (oEZ.grown g2))); have q2 := hd2.g.cell c2' (fun e => e); have q3 := hd2.g.cell c3' (fun e => e); have hZ := six_cells (g2.block (wc.heap.size + 1) (by simp) (by simp [Value.ownBlock])) zEZ; have hZb := (g2.block (wc.heap.size + 1) (by simp) (by simp [Value.ownBlock])).trans zEZ)
              | (refine step_app rfl _ _ rfl wc.heap.size (.slice (some ⟨wc.heap.size + 1, 0, none⟩) 0 0) _ [] (body l) rfl rfl oZE eZE (by rw [hbl]; simp; omega) (by simp; try omega) ?_; intro v2 w2 o2 g2; rw [List.nil_append] at o2; obtain ⟨a', c', rfl⟩ := o2.sv; rw [hbl] at o2 ⊢; have hd2 := Gd.of hk1 ((GZE.trans (oZE.grown g2))); have q2 := hd2.g.cell c2' (fun e => e); have q3 := hd2.g.cell c3' (fun e => e); have hZ := six_cells (g2.block wc.heap.size (by simp; try omega) (by simp [Value.ownBlock])) zZE; have hZb := (g2.block wc.heap.size (by simp; try omega) (by simp [Value.ownBlock])).trans zZE)
              | fail)
          all_goals (go_wp2_with fail; go_meet)
          all_goals first
            | exact Gd.shut hk1 hd2.n hZb o2 (by omega)
            | exact ⟨w2.heap.size, a', c', rfl, hd2.k.step (Gr.alloc _ _ _), hd2.k.lt, heap_alloc_new w2 _, (o2.g0 (Gr.alloc _ _ _)).mono (Nat.le_of_lt hWc)⟩
        case rest =>
        obtain ⟨B, a', c', rfl, hk2, hltB, hB, ho2⟩ := hcut
        clear d0 d1 d2 d3 z4
        have fB := fr_cells hB
        have hBs : B < wc.heap.size := (Array.getElem?_eq_some_iff.1 hB).1
        go_wp2_with fail
        refine (hck _ _ _).mono ?_
        rintro e w3 ⟨rfl, hg3⟩
        have hk3 := hk2.step hg3
        have z5 := zero4 rfl hk3.b
        have f3 := fr_cells ((hg3.block _ hBs (fun e => e)).trans hB)
        by_cases hc : chk (y2 : Nat) (y3 : Nat) (r : Nat) n = 0
        · replace ho := ho.out
          rw [hc] at ho ⊢
          replace ho := Lib.hid ho
          have hE : Hid (∀ w' v', G0 W w' → Ow W.heap.size w' v' (body l) → EndO W l (.returned (.tuple #[fr y2 y3 r v', .int .i64 0])) w') := Lib.hid (fun w' v' g o => ⟨g, .inr ⟨ho.out, v', by rw [hgy2.out, hgy3.out, hgr.out], o⟩⟩)
          clear hc
          have hb4 := set4 hk3.b (.int .i64 y2) (.int .i64 y3) (.int .u32 r) (.slice a' n c')
          have hg4 := gr4 w3 W.heap.size (.int .i64 y2) (.int .i64 y3) (.int .u32 r) (.slice a' n c')
          obtain ⟨p0, p1, p2, p3⟩ := fr_cells hb4
          go_wp2
          refine bodyPost_ret (v := .tuple #[fr y2 y3 r (.slice a' n c'), .int .i64 0]) (by simp [results, Try.results18, go_sem, p0, p1, p2, p3]) rfl (hE.out _ _ (hk3.g.trans' hg4 (fun i hi e => by omega)) ?_)
          exact (ho2.g0 hg3).gr hg4 (fun k _ hk e => (ho2.g0 hg3).ne hk3.b k hk e)
        · have hq0 : (chk (y2 : Nat) (y3 : Nat) (r : Nat) n != 0) = true := by simpa using hc
          generalize chk (y2 : Nat) (y3 : Nat) (r : Nat) n = c at *
          replace ho := Lib.hid ho.out
          replace hc := Lib.hid hc
          have hb4 := set4 hk3.b (.int .i64 0) (.int .i64 0) (.int .u32 0) (.slice none 0 0)
          have hg4 := gr4 w3 W.heap.size (.int .i64 0) (.int .i64 0) (.int .u32 0) (.slice none 0 0)
          obtain ⟨p0, p1, p2, p3⟩ := fr_cells hb4
          go_wp2
          exact bodyPost_ret (v := .tuple #[fr 0 0 0 (.slice none 0 0), .int .i64 c]) (by simp [results, Try.results18, go_sem, p0, p1, p2, p3]) rfl (EndO.no ho.out hc.out (hk3.g.trans' hg4 (fun i hi e => by omega)))
      · have ho := Lib.hid (O2.out rfl (.inr m1))
        rw [m0] at d0
        have hq1 : (((l.getD 1 0 : Nat) : Int) != 75) = true := by simp only [bne_iff_ne]; omega
        have b0 : (0 : Int) < (n : Int) + 12 := by omega
        have b1 : (1 : Int) < (n : Int) + 12 := by omega
        generalize l.getD 1 0 = y1 at *
        clear O1 O2 O3 m0 m1
        have hb4 := set4 hk1.b (.int .i64 0) (.int .i64 0) (.int .u32 0) (.slice none 0 0)
        have hg4 := gr4 wc W.heap.size (.int .i64 0) (.int .i64 0) (.int .u32 0) (.slice none 0 0)
        obtain ⟨p0, p1, p2, p3⟩ := fr_cells hb4
        go_wp2
        exact bodyPost_ret (v := .tuple #[fr 0 0 0 (.slice none 0 0), .int .i64 65]) (by simp [results, Try.results18, go_sem, p0, p1, p2, p3]) rfl (EndO.no ho.out (by decide) (hk1.g.trans' hg4 (fun i hi e => by omega)))
    · have ho := Lib.hid (O2.out rfl (.inl m0))
      have hq1 : (((l.getD 0 0 : Nat) : Int) != 82) = true := by simp only [bne_iff_ne]; omega
      have b0 : (0 : Int) < (n : Int) + 12 := by omega
      have b1 : (1 : Int) < (n : Int) + 12 := by omega
      generalize l.getD 0 0 = y0 at *
      clear O1 O2 O3 m0
      have hb4 := set4 hk1.b (.int .i64 0) (.int .i64 0) (.int .u32 0) (.slice none 0 0)
      have hg4 := gr4 wc W.heap.size (.int .i64 0) (.int .i64 0) (.int .u32 0) (.slice none 0 0)
      obtain ⟨p0, p1, p2, p3⟩ := fr_cells hb4
      go_wp2
      exact bodyPost_ret (v := .tuple #[fr 0 0 0 (.slice none 0 0), .int .i64 65]) (by simp [results, Try.results18, go_sem, p0, p1, p2, p3]) rfl (EndO.no ho.out (by decide) (hk1.g.trans' hg4 (fun i hi e => by omega)))
end Go.Proofs.Ytnaapgjjombdpaa
