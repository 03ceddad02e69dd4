/-
  The reference's Do: a datagram is spoilt.
-/
import Derived.Test.YtjffhnpoipolfaaZM
set_option linter.unusedVariables false
set_option linter.unusedSimpArgs false
namespace Go.Proofs.Ytjffhnpoipolfaa
open Go.RowKit Go.Maps Go.WideMaps
variable {S S' Y : Nat → Prop} {W W1 W' : World}
theorem ed_kept {W0 : World} {nodes : Int} {sent : Nat} {wv bv : Value} {lost : Nat} {k f t i a m : Int} {ob : Value} (h : B5 W0 W nodes sent wv bv lost k f t i a m ob) (g : Gr S W W') (hs : ∀ x, S x → W0.heap.size + 1 + 1 + 1 + 1 + 1 ≤ x) : B5 W0 W' nodes sent wv bv lost k f t i a m ob :=
  ⟨(g.block _ (lt_of_blk h.xa) (fun e => by have := hs _ e; omega)).trans h.xa, (g.block _ (lt_of_blk h.xb) (fun e => by have := hs _ e; omega)).trans h.xb, (g.block _ (lt_of_blk h.xc) (fun e => by have := hs _ e; omega)).trans h.xc, (g.block _ (lt_of_blk h.xd) (fun e => by have := hs _ e; omega)).trans h.xd, (g.block _ (lt_of_blk h.xe) (fun e => by have := hs _ e; omega)).trans h.xe, h.xg.trans' g (fun x hx e => by have := hs x e; omega)⟩
theorem Ow.lt8 {g cap n : Nat} {l : List Nat} (h : Ow 0 W (.slice (some ⟨g, 0, none⟩) n cap) l) : g < W.heap.size := by
  rcases h.row.2 with ⟨e, _⟩ | ⟨g', cap', cur, e, h1, h2, _⟩
  · cases e
  · cases e; exact lt_of_blk h2
theorem Ow.at' {g cap n : Nat} {l : List Nat} (h : Ow 0 W (.slice (some ⟨g, 0, none⟩) n cap) l) (hn : l.length = n) {j : Nat} (hj : j < n) : W.cell? ⟨g, j, none⟩ = some (.int .u8 ((l.getD j 0 : Nat) : Int)) ∧ W.frozen? ⟨g, j, none⟩ = false := by
  subst hn; exact h.at_ hj
theorem trd_yes (l : List Nat) (k m n : Nat) (h : k + (3 - n) < l.length) : trd l k m (n + 1) = (trd l k m n).set (k + (3 - n)) ((trd l k m n).getD (k + (3 - n)) 0 ^^^ (m / 2 ^ (8 * n) % 256)) := by rw [trd, if_pos h]
theorem trd_no (l : List Nat) (k m n : Nat) (h : ¬ k + (3 - n) < l.length) : trd l k m (n + 1) = trd l k m n := by rw [trd, if_neg h]
set_option maxRecDepth 20000 in
set_option maxHeartbeats 4000000 in
theorem do4_ok (W : World) (nodes : Int) (sent : Nat) (wv : Value) (l : List Dx) (ba : Option Addr) (bl bc : Nat) (lost : Nat) (f t : Int) (i j m : Nat) (oa : Option Addr) (ol oc : Nat) (h : Rg Y W wv l) (hY : ∀ k, Y k → k < W.heap.size) (hl : (l.length : Int) ≤ 1024) (d : Dx) (hd : l[i]? = some d) (hsp : d.sp = false) (hj : j < d.by'.length) (hm : m < 4294967296) :
    Calls Try.prog 13 #[rv nodes sent wv (.slice ba bl bc) lost, ov 4 f t (i : Int) (j : Int) (m : Int) (.slice oa ol oc)] W (EndD W (fun w' nv dd ok c => ∃ wv' d', nv = rv nodes sent wv' (.slice ba bl bc) lost ∧ dd = zdv ∧ ok = false ∧ c = 0 ∧ abx d' = (d.f, d.t, d.n, tur d.by' j m (min 4 (d.by'.length - j)), true) ∧ Rg (fun k => Y k ∨ W.heap.size ≤ k) w' wv' (l.set i d'))) := by
  obtain ⟨g, cap, rfl, hc1, hc2, y0, y1, y2, y3, y4⟩ := rowx_at h.row hd
  have hi : i < l.length := (List.getElem?_eq_some_iff.1 hd).1
  have hdm := h.byt d (List.mem_of_getElem? hd)
  have hdl : (d.by'.length : Int) ≤ 1212 := by have := hdm.2.2; omega
  have hgl : g < W.heap.size := hY g (h.own g rfl)
  have hiI : (i : Int) < (l.length : Int) := by omega
  have hjI : (j : Int) < (d.by'.length : Int) := by omega
  have hgl1 : g < W.heap.size + 1 := by omega
  have hgl2 : g < W.heap.size + 1 + 1 := by omega
  have hgl3 : g < W.heap.size + 1 + 1 + 1 := by omega
  have hgl4 : g < W.heap.size + 1 + 1 + 1 + 1 := by omega
  have hlp : 0 < l.length := by omega
  rw [hsp] at y4
  have HB := b5_new W nodes sent (.slice (some ⟨g, 0, none⟩) l.length cap) (.slice ba bl bc) lost 4 f t (i : Int) (j : Int) (m : Int) (.slice oa ol oc)
  have hsz5 : (W5 W nodes sent (.slice (some ⟨g, 0, none⟩) l.length cap) (.slice ba bl bc) lost 4 f t (i : Int) (j : Int) (m : Int) (.slice oa ol oc)).heap.size = W.heap.size + 1 + 1 + 1 + 1 + 1 := by simp only [W5, size_alloc]
  obtain ⟨w7, hw7⟩ : ∃ w, ((W5 W nodes sent (.slice (some ⟨g, 0, none⟩) l.length cap) (.slice ba bl bc) lost 4 f t (i : Int) (j : Int) (m : Int) (.slice oa ol oc)).alloc (.cells #[.int .i64 d.f, .int .i64 d.t, .int .u64 (d.n : Int), .slice d.a d.by'.length d.c, .bool false] 39)).alloc (.cells #[] 5) = w := ⟨_, rfl⟩
  have X7 : B5 W w7 nodes sent (.slice (some ⟨g, 0, none⟩) l.length cap) (.slice ba bl bc) lost 4 f t (i : Int) (j : Int) (m : Int) (.slice oa ol oc) := by rw [← hw7]; exact (HB.g0 (Gr.alloc _ _ _)).g0 (Gr.alloc _ _ _)
  have D7 : w7.heap[W.heap.size + 1 + 1 + 1 + 1 + 1]? = some (.cells #[.int .i64 d.f, .int .i64 d.t, .int .u64 (d.n : Int), .slice d.a d.by'.length d.c, .bool false] 39 (0, 0)) := by
    rw [← hw7, heap_alloc_old _ _ (by simp only [size_alloc, hsz5]; omega)]; exact alloc_at _ _ _ hsz5.symm
  have E7 : w7.heap[W.heap.size + 1 + 1 + 1 + 1 + 1 + 1]? = some (.cells #[] 5 (0, 0)) := by
    rw [← hw7]; exact alloc_at _ _ _ (by rw [size_alloc, hsz5])
  have Z7 : w7.heap.size = W.heap.size + 1 + 1 + 1 + 1 + 1 + 1 + 1 := by rw [← hw7, size_alloc, size_alloc, hsz5]
  have S7 : Sl w7 (.slice d.a d.by'.length d.c) d.by' := hdm.1.g0 X7.xg
  have HX7 := Lib.hid X7
  have HD7 := Lib.hid D7
  have HE7 := Lib.hid E7
  have HZ7 := Lib.hid Z7
  have HS7 := Lib.hid S7
  have Hh := Lib.hid h
  have HY := Lib.hid hY
  have Hd := Lib.hid hd
  have Hhi := Lib.hid hi
  have Hby := Lib.hid S7.byte
  obtain ⟨a07, a17, a27, a37, a47, _⟩ := five X7.xa
  obtain ⟨b07, b17, b27, b37, b47, b57, b67⟩ := seven X7.xb
  obtain ⟨u07, u17, u27, u37, u47, _⟩ := five D7
  clear X7 D7 E7 Z7 S7 h hY hd hdm hsp HB hsz5
  go_enter Try.func13, Try.ntmps13
  go_wp2_with (first
    | (at_builtin; refine wpList_appb _ rfl _ _ rfl (W.heap.size + 1 + 1 + 1 + 1 + 1 + 1) (.slice d.a d.by'.length d.c) d.by' rfl rfl HE7.out HS7.out ?_; intro g8 cap8 w8 hO8 hG8 hl8; have X8 := Lib.hid (ed_kept HX7.out hG8 (fun x e => by omega)); have D8 := Lib.hid ((hG8.block _ (lt_of_blk HD7.out) (by omega)).trans HD7.out); obtain ⟨b08, b18, b28, b38, b48, b58, b68⟩ := seven X8.out.xb; have HO8 := Lib.hid hO8; have HG8 := Lib.hid hG8; have Hl8 := Lib.hid hl8; clear hO8 hG8 hl8))
  have hg8 : W.heap.size + 1 + 1 + 1 + 1 + 1 + 1 ≤ g8 := by have := HZ7.out; rcases Hl8.out with e | e <;> omega
  have HO8' : Hid (Ow 0 w8 (.slice (some ⟨g8, 0, none⟩) d.by'.length cap8) d.by') := HO8
  obtain ⟨dl, hdl'⟩ : ∃ dl, d.by'.length = dl := ⟨_, rfl⟩
  have Hdl := Lib.hid hdl'
  rw [hdl'] at hdl hjI HO8' ⊢
  clear HO8 a07 a17 a27 a37 a47 b07 b17 b27 b37 b47 b57 b67 u07 u17 u27 u37 u47 hj hdl'
  go_loopw [14, 15] (fun mv kv wr => ∃ n : Nat, n ≤ 4 ∧ kv = .int .i64 (3 - (n : Int)) ∧ mv = .int .u32 ((m / 256 ^ n : Nat) : Int) ∧ Ow 0 wr (.slice (some ⟨g8, 0, none⟩) dl cap8) (trd d.by' j m n) ∧ Gr (fun k => k = g8) w8 wr) (fun _ kv _ => (intOf kv + 1).toNat)
  case atStart => exact ⟨0, by omega, rfl, by simp, HO8'.out, Gr.refl _ _⟩
  case round =>
    obtain ⟨n, hn, rfl, rfl, hO, hG⟩ := hrel
    have Xr := Lib.hid (ed_kept X8.out hG (fun x e => by omega))
    have Dr := Lib.hid ((hG.block _ (lt_of_blk D8.out) (by omega)).trans D8.out)
    obtain ⟨b0r, b1r, b2r, b3r, b4r, b5r, b6r⟩ := seven Xr.out.xb
    have hln := trd_len d.by' j m n
    rw [Hdl.out] at hln
    have Hln := Lib.hid hln
    obtain ⟨q, hq⟩ : ∃ q, m / 256 ^ n = q := ⟨_, rfl⟩
    have hqm : q ≤ m := by rw [← hq]; exact Nat.div_le_self _ _
    have hqI : (q : Int) < 4294967296 := by omega
    rw [hq]
    clear b08 b18 b28 b38 b48 b58 b68
    have hn5 : n = 0 ∨ n = 1 ∨ n = 2 ∨ n = 3 ∨ n = 4 := by omega
    rcases hn5 with rfl | rfl | rfl | rfl | rfl
    · obtain ⟨jp, hjp⟩ : ∃ jp, j + 3 = jp := ⟨_, rfl⟩
      have hjpI : (j : Int) + 3 = (jp : Int) := by omega
      have hjj : (j : Int) ≤ (jp : Int) := by omega
      have Hjp := Lib.hid hjp
      clear hjp
      by_cases hlt : jp < dl
      · have hI : (jp : Int) < (dl : Int) := by omega
        obtain ⟨cx, fx⟩ := hO.at' Hln.out (j := jp) (by omega)
        have hx := getD_lt hO.byte (jp)
        have hst := Lib.hid (trd_yes d.by' j m 0 (by rw [Hdl.out]; have := Hjp.out; omega))
        have HOs := Lib.hid (fun x hx => hO.set Hln.out (jp) x hx)
        have hq2 : Hid (m / 2 ^ (8 * 0) % 256 = q % 256) := Lib.hid (by rw [← hq])
        have hnx : Hid (m / 256 ^ (0 + 1) = q / 256) := Lib.hid (by rw [← hq, Nat.pow_succ, Nat.div_div_eq_div_mul])
        rw [show j + (3 - 0) = jp by have := Hjp.out; omega, hq2.out] at hst
        generalize (trd d.by' j m 0).getD (jp) 0 = x at *
        obtain ⟨y, hy⟩ : ∃ y, q % 256 = y := ⟨_, rfl⟩
        have hy2 : y < 256 := by omega
        have hyI : (q : Int) % 256 = (y : Int) := by omega
        have hxx : bits .xor .u8 (x : Int) (y : Int) = ((x ^^^ y : Nat) : Int) := u8_xor_nat x y hx hy2
        have HG := Lib.hid hG
        rw [hy] at hst
        clear hO hG hq hqm hn hln hy
        go_wp2_with fail
        go_region
        all_goals
          go_wp2_with fail
          refine ⟨⟨1, by omega, by first | rfl | simp, ?_, ?_, ?_⟩, by simp [intOf]⟩
          · rw [hnx.out]; simp
          · rw [hst.out]; exact (HOs.out _ (Nat.xor_lt_two_pow (n := 8) hx hy2)).gr (Gr.drew _ (fun _ => False)) (fun _ _ e => e)
          · exact (HG.out.cell _ _ (.inl rfl)).trans (Gr.drew _ _)
      · have hI : ¬ (jp : Int) < (dl : Int) := by omega
        have HO := Lib.hid hO
        have HG := Lib.hid hG
        have hst := Lib.hid (trd_no d.by' j m 0 (by rw [Hdl.out]; have := Hjp.out; omega))
        have hnx : Hid (m / 256 ^ (0 + 1) = q / 256) := Lib.hid (by rw [← hq, Nat.pow_succ, Nat.div_div_eq_div_mul])
        clear hO hG hq hqm hn hln
        go_wp2_with fail
        refine ⟨⟨1, by omega, by first | rfl | simp, ?_, ?_, HG.out⟩, by simp [intOf]⟩
        · rw [hnx.out]; simp
        · rw [hst.out]; exact HO.out
    · obtain ⟨jp, hjp⟩ : ∃ jp, j + 2 = jp := ⟨_, rfl⟩
      have hjpI : (j : Int) + 2 = (jp : Int) := by omega
      have hjj : (j : Int) ≤ (jp : Int) := by omega
      have Hjp := Lib.hid hjp
      clear hjp
      by_cases hlt : jp < dl
      · have hI : (jp : Int) < (dl : Int) := by omega
        obtain ⟨cx, fx⟩ := hO.at' Hln.out (j := jp) (by omega)
        have hx := getD_lt hO.byte (jp)
        have hst := Lib.hid (trd_yes d.by' j m 1 (by rw [Hdl.out]; have := Hjp.out; omega))
        have HOs := Lib.hid (fun x hx => hO.set Hln.out (jp) x hx)
        have hq2 : Hid (m / 2 ^ (8 * 1) % 256 = q % 256) := Lib.hid (by rw [← hq])
        have hnx : Hid (m / 256 ^ (1 + 1) = q / 256) := Lib.hid (by rw [← hq, Nat.pow_succ, Nat.div_div_eq_div_mul])
        rw [show j + (3 - 1) = jp by have := Hjp.out; omega, hq2.out] at hst
        generalize (trd d.by' j m 1).getD (jp) 0 = x at *
        obtain ⟨y, hy⟩ : ∃ y, q % 256 = y := ⟨_, rfl⟩
        have hy2 : y < 256 := by omega
        have hyI : (q : Int) % 256 = (y : Int) := by omega
        have hxx : bits .xor .u8 (x : Int) (y : Int) = ((x ^^^ y : Nat) : Int) := u8_xor_nat x y hx hy2
        have HG := Lib.hid hG
        rw [hy] at hst
        clear hO hG hq hqm hn hln hy
        go_wp2_with fail
        go_region
        all_goals
          go_wp2_with fail
          refine ⟨⟨2, by omega, by first | rfl | simp, ?_, ?_, ?_⟩, by simp [intOf]⟩
          · rw [hnx.out]; simp
          · rw [hst.out]; exact (HOs.out _ (Nat.xor_lt_two_pow (n := 8) hx hy2)).gr (Gr.drew _ (fun _ => False)) (fun _ _ e => e)
          · exact (HG.out.cell _ _ (.inl rfl)).trans (Gr.drew _ _)
      · have hI : ¬ (jp : Int) < (dl : Int) := by omega
        have HO := Lib.hid hO
        have HG := Lib.hid hG
        have hst := Lib.hid (trd_no d.by' j m 1 (by rw [Hdl.out]; have := Hjp.out; omega))
        have hnx : Hid (m / 256 ^ (1 + 1) = q / 256) := Lib.hid (by rw [← hq, Nat.pow_succ, Nat.div_div_eq_div_mul])
        clear hO hG hq hqm hn hln
        go_wp2_with fail
        refine ⟨⟨2, by omega, by first | rfl | simp, ?_, ?_, HG.out⟩, by simp [intOf]⟩
        · rw [hnx.out]; simp
        · rw [hst.out]; exact HO.out
    · obtain ⟨jp, hjp⟩ : ∃ jp, j + 1 = jp := ⟨_, rfl⟩
      have hjpI : (j : Int) + 1 = (jp : Int) := by omega
      have hjj : (j : Int) ≤ (jp : Int) := by omega
      have Hjp := Lib.hid hjp
      clear hjp
      by_cases hlt : jp < dl
      · have hI : (jp : Int) < (dl : Int) := by omega
        obtain ⟨cx, fx⟩ := hO.at' Hln.out (j := jp) (by omega)
        have hx := getD_lt hO.byte (jp)
        have hst := Lib.hid (trd_yes d.by' j m 2 (by rw [Hdl.out]; have := Hjp.out; omega))
        have HOs := Lib.hid (fun x hx => hO.set Hln.out (jp) x hx)
        have hq2 : Hid (m / 2 ^ (8 * 2) % 256 = q % 256) := Lib.hid (by rw [← hq])
        have hnx : Hid (m / 256 ^ (2 + 1) = q / 256) := Lib.hid (by rw [← hq, Nat.pow_succ, Nat.div_div_eq_div_mul])
        rw [show j + (3 - 2) = jp by have := Hjp.out; omega, hq2.out] at hst
        generalize (trd d.by' j m 2).getD (jp) 0 = x at *
        obtain ⟨y, hy⟩ : ∃ y, q % 256 = y := ⟨_, rfl⟩
        have hy2 : y < 256 := by omega
        have hyI : (q : Int) % 256 = (y : Int) := by omega
        have hxx : bits .xor .u8 (x : Int) (y : Int) = ((x ^^^ y : Nat) : Int) := u8_xor_nat x y hx hy2
        have HG := Lib.hid hG
        rw [hy] at hst
        clear hO hG hq hqm hn hln hy
        go_wp2_with fail
        go_region
        all_goals
          go_wp2_with fail
          refine ⟨⟨3, by omega, by first | rfl | simp, ?_, ?_, ?_⟩, by simp [intOf]⟩
          · rw [hnx.out]; simp
          · rw [hst.out]; exact (HOs.out _ (Nat.xor_lt_two_pow (n := 8) hx hy2)).gr (Gr.drew _ (fun _ => False)) (fun _ _ e => e)
          · exact (HG.out.cell _ _ (.inl rfl)).trans (Gr.drew _ _)
      · have hI : ¬ (jp : Int) < (dl : Int) := by omega
        have HO := Lib.hid hO
        have HG := Lib.hid hG
        have hst := Lib.hid (trd_no d.by' j m 2 (by rw [Hdl.out]; have := Hjp.out; omega))
        have hnx : Hid (m / 256 ^ (2 + 1) = q / 256) := Lib.hid (by rw [← hq, Nat.pow_succ, Nat.div_div_eq_div_mul])
        clear hO hG hq hqm hn hln
        go_wp2_with fail
        refine ⟨⟨3, by omega, by first | rfl | simp, ?_, ?_, HG.out⟩, by simp [intOf]⟩
        · rw [hnx.out]; simp
        · rw [hst.out]; exact HO.out
    · obtain ⟨cx, fx⟩ := hO.at' Hln.out (j := j) (by omega)
      have hx := getD_lt hO.byte (j)
      have hst := Lib.hid (trd_yes d.by' j m 3 (by rw [Hdl.out]; omega))
      have HOs := Lib.hid (fun x hx => hO.set Hln.out (j) x hx)
      have hq2 : Hid (m / 2 ^ (8 * 3) % 256 = q % 256) := Lib.hid (by rw [← hq])
      have hnx : Hid (m / 256 ^ (3 + 1) = q / 256) := Lib.hid (by rw [← hq, Nat.pow_succ, Nat.div_div_eq_div_mul])
      rw [show j + (3 - 3) = j by omega, hq2.out] at hst
      generalize (trd d.by' j m 3).getD (j) 0 = x at *
      obtain ⟨y, hy⟩ : ∃ y, q % 256 = y := ⟨_, rfl⟩
      have hy2 : y < 256 := by omega
      have hyI : (q : Int) % 256 = (y : Int) := by omega
      have hxx : bits .xor .u8 (x : Int) (y : Int) = ((x ^^^ y : Nat) : Int) := u8_xor_nat x y hx hy2
      have HG := Lib.hid hG
      rw [hy] at hst
      clear hO hG hq hqm hn hln hy
      go_wp2_with fail
      go_region
      all_goals
        go_wp2_with fail
        refine ⟨⟨4, by omega, by first | rfl | simp, ?_, ?_, ?_⟩, by simp [intOf]⟩
        · rw [hnx.out]; simp
        · rw [hst.out]; exact (HOs.out _ (Nat.xor_lt_two_pow (n := 8) hx hy2)).gr (Gr.drew _ (fun _ => False)) (fun _ _ e => e)
        · exact (HG.out.cell _ _ (.inl rfl)).trans (Gr.drew _ _)
    · have HO := Lib.hid hO
      have HG := Lib.hid hG
      have ht4 := Lib.hid (trd_tur d.by' j m (by rw [Hdl.out]; omega))
      have G7r : Gr (fun k => W.heap.size + 1 + 1 + 1 + 1 + 1 + 1 ≤ k) w7 wr := (HG8.out.mono (fun i _ e => by omega)).trans' (hG.mono (S' := fun k => k = g8) (fun _ _ e => e)) (fun i _ e => by omega)
      have hzr : W.heap.size + 1 + 1 + 1 + 1 + 1 + 1 + 1 ≤ wr.heap.size := by have := HG8.out.size; have := hG.size; have := HZ7.out; omega
      have hg8r : g8 < wr.heap.size := hO.lt8
      have Hsrc := Lib.hid ((src_row Hh.out.row).g0 (Xr.out.xg.trans (Gr.alloc wr (.cells #[] 39) _)))
      obtain ⟨u0r, u1r, u2r, u3r, u4r, v0r, v1r, v2r, v3r, v4r⟩ := five Dr.out
      obtain ⟨a0r, a1r, a2r, a3r, a4r, fa0r, fa1r, fa2r, fa3r, fa4r⟩ := five Xr.out.xa
      have Zr := Lib.hid hzr
      have hz0 : W.heap.size < wr.heap.size := by omega
      have hz1 : W.heap.size + 1 < wr.heap.size := by omega
      have hz5 : W.heap.size + 1 + 1 + 1 + 1 + 1 < wr.heap.size := by omega
      clear hO hG hq hqm hn hln
      go_wp2_with (first
        | (at_builtin; refine wpList_cpx _ rfl _ _ rfl wr.heap.size l.length (.slice (some ⟨g, 0, none⟩) l.length cap) (flatX l) rfl rfl (heap_alloc_new wr _) Hsrc.out flatX_one (by omega) (by omega) ?_; intro g9 cap9 w9 hr9 hG9 hl9 hf9 hc9 hc9'; have hg9 : wr.heap.size ≤ g9 := (by rcases hl9 with e | e; (· omega); (· rw [size_alloc] at e; omega)); have G9 : Hid (Gr (fun k => wr.heap.size ≤ k) wr w9) := Lib.hid ((Gr.alloc wr _ _).trans' hG9 (fun i hi e => by omega)); have X9 := Lib.hid (ed_kept Xr.out G9.out (fun x e => by omega)); have D9 := Lib.hid ((G9.out.block _ (lt_of_blk Dr.out) (by omega)).trans Dr.out); obtain ⟨u09, u19, u29, u39, u49, v09, v19, v29, v39, v49⟩ := five D9.out; obtain ⟨a09, a19, a29, a39, a49, fa09, fa19, fa29, fa39, fa49⟩ := five X9.out.xa; obtain ⟨b09, b19, b29, b39, b49, b59, b69⟩ := seven X9.out.xb; obtain ⟨gz, cz, ez, _, _, z0, z1, z2, z3, z4⟩ := rowx_at hr9 Hd.out; have egz : gz = g9 := (by injection ez with e3; injection e3 with e3; injection e3 with e3; exact e3.symm); subst egz; have R9 := Lib.hid hr9; have f0 := hf9 (i * 5); have f1 := hf9 (i * 5 + 1); have f2 := hf9 (i * 5 + 2); have f3 := hf9 (i * 5 + 3); have f4 := hf9 (i * 5 + 4); have n5 : ¬ gz = W.heap.size + 1 + 1 + 1 + 1 + 1 := (by omega); have n5' : ¬ W.heap.size + 1 + 1 + 1 + 1 + 1 = gz := (by omega); have n0 : ¬ gz = W.heap.size := (by omega); have n0' : ¬ W.heap.size = gz := (by omega); have n1 : ¬ gz = W.heap.size + 1 := (by omega); clear hr9 hG9 hl9 hf9 ez))
      have ht4l : (trd d.by' j m 4).length = dl := Hln.out
      have hgz : wr.heap.size ≤ gz := hg9
      have c5 : ∀ (w : World) k v u, k ≠ W.heap.size + 1 + 1 + 1 + 1 + 1 → ((w.setCell ⟨W.heap.size + 1 + 1 + 1 + 1 + 1, 3, none⟩ v).setCell ⟨W.heap.size + 1 + 1 + 1 + 1 + 1, 4, none⟩ u).heap[k]? = w.heap[k]? := fun w k v u hk => (heap_setCell_other _ ⟨_, 4, none⟩ k u hk).trans (heap_setCell_other _ ⟨_, 3, none⟩ k v hk)
      have cg : ∀ (w : World) k v0 v1 v2 v3 v4, k ≠ gz → (((((w.setCell ⟨gz, i * 5, none⟩ v0).setCell ⟨gz, i * 5 + 1, none⟩ v1).setCell ⟨gz, i * 5 + 2, none⟩ v2).setCell ⟨gz, i * 5 + 3, none⟩ v3).setCell ⟨gz, i * 5 + 4, none⟩ v4).heap[k]? = w.heap[k]? := fun w k v0 v1 v2 v3 v4 hk => ((((heap_setCell_other _ ⟨gz, i * 5 + 4, none⟩ k v4 hk).trans (heap_setCell_other _ ⟨gz, i * 5 + 3, none⟩ k v3 hk)).trans (heap_setCell_other _ ⟨gz, i * 5 + 2, none⟩ k v2 hk)).trans (heap_setCell_other _ ⟨gz, i * 5 + 1, none⟩ k v1 hk)).trans (heap_setCell_other _ ⟨gz, i * 5, none⟩ k v0 hk)
      have rA := ownsRow_of_block R9.out (W' := (w9.setCell ⟨W.heap.size + 1 + 1 + 1 + 1 + 1, 3, none⟩ (.slice (some ⟨g8, 0, none⟩) dl cap8)).setCell ⟨W.heap.size + 1 + 1 + 1 + 1 + 1, 4, none⟩ (.bool true)) (fun k e => c5 w9 k _ _ (by cases e; omega))
      have rB := row_set5 rA rfl Hhi.out ⟨d.f, d.t, d.n, some ⟨g8, 0, none⟩, cap8, trd d.by' j m 4, true⟩
      simp only [Dx.bv, ht4l] at rB
      have rC := ownsRow_of_block rB (W' := World.setCell _ ⟨W.heap.size, 2, none⟩ (.slice (some ⟨gz, 0, none⟩) l.length cap9)) (fun k e => heap_setCell_other _ ⟨W.heap.size, 2, none⟩ k _ (by cases e; omega))
      have q12 : ∀ k, k ≠ W.heap.size + 1 + 1 + 1 + 1 + 1 → k ≠ gz → k ≠ W.heap.size → ((((((((w9.setCell ⟨W.heap.size + 1 + 1 + 1 + 1 + 1, 3, none⟩ (.slice (some ⟨g8, 0, none⟩) dl cap8)).setCell ⟨W.heap.size + 1 + 1 + 1 + 1 + 1, 4, none⟩ (.bool true)).setCell ⟨gz, i * 5, none⟩ (.int .i64 d.f)).setCell ⟨gz, i * 5 + 1, none⟩ (.int .i64 d.t)).setCell ⟨gz, i * 5 + 2, none⟩ (.int .u64 (d.n : Int))).setCell ⟨gz, i * 5 + 3, none⟩ (.slice (some ⟨g8, 0, none⟩) dl cap8)).setCell ⟨gz, i * 5 + 4, none⟩ (.bool true)).setCell ⟨W.heap.size, 2, none⟩ (.slice (some ⟨gz, 0, none⟩) l.length cap9)).heap[k]? = w9.heap[k]? := fun k k1 k2 k3 => (heap_setCell_other _ ⟨W.heap.size, 2, none⟩ k _ k3).trans ((cg _ k _ _ _ _ _ k2).trans (c5 w9 k _ _ k1))
      have xa12 := heap_setCell_same (((((((w9.setCell ⟨W.heap.size + 1 + 1 + 1 + 1 + 1, 3, none⟩ (.slice (some ⟨g8, 0, none⟩) dl cap8)).setCell ⟨W.heap.size + 1 + 1 + 1 + 1 + 1, 4, none⟩ (.bool true)).setCell ⟨gz, i * 5, none⟩ (.int .i64 d.f)).setCell ⟨gz, i * 5 + 1, none⟩ (.int .i64 d.t)).setCell ⟨gz, i * 5 + 2, none⟩ (.int .u64 (d.n : Int))).setCell ⟨gz, i * 5 + 3, none⟩ (.slice (some ⟨g8, 0, none⟩) dl cap8)).setCell ⟨gz, i * 5 + 4, none⟩ (.bool true)) W.heap.size 2 _ 32 (.slice (some ⟨gz, 0, none⟩) l.length cap9) ((cg _ _ _ _ _ _ _ (by omega)).trans ((c5 w9 _ _ _ (by omega)).trans X9.out.xa))
      have hgg : G0 W (((((((w9.setCell ⟨W.heap.size + 1 + 1 + 1 + 1 + 1, 3, none⟩ (.slice (some ⟨g8, 0, none⟩) dl cap8)).setCell ⟨W.heap.size + 1 + 1 + 1 + 1 + 1, 4, none⟩ (.bool true)).setCell ⟨gz, i * 5, none⟩ (.int .i64 d.f)).setCell ⟨gz, i * 5 + 1, none⟩ (.int .i64 d.t)).setCell ⟨gz, i * 5 + 2, none⟩ (.int .u64 (d.n : Int))).setCell ⟨gz, i * 5 + 3, none⟩ (.slice (some ⟨g8, 0, none⟩) dl cap8)).setCell ⟨gz, i * 5 + 4, none⟩ (.bool true)) := ((((((X9.out.xg.cell ⟨_, 3, none⟩ _ (.inr (by show W.heap.size ≤ W.heap.size + 1 + 1 + 1 + 1 + 1; omega))).cell ⟨_, 4, none⟩ _ (.inr (by show W.heap.size ≤ W.heap.size + 1 + 1 + 1 + 1 + 1; omega))).cell ⟨gz, i * 5, none⟩ _ (.inr (by show W.heap.size ≤ gz; omega))).cell ⟨gz, i * 5 + 1, none⟩ _ (.inr (by show W.heap.size ≤ gz; omega))).cell ⟨gz, i * 5 + 2, none⟩ _ (.inr (by show W.heap.size ≤ gz; omega))).cell ⟨gz, i * 5 + 3, none⟩ _ (.inr (by show W.heap.size ≤ gz; omega))).cell ⟨gz, i * 5 + 4, none⟩ _ (.inr (by show W.heap.size ≤ gz; omega))
      have hg12 := hgg.cell ⟨W.heap.size, 2, none⟩ (.slice (some ⟨gz, 0, none⟩) l.length cap9) (.inr (Nat.le_refl _))
      clear hgg rA rB c5 cg z0 z1 z2 z3 z4 f0 f1 f2 f3 f4 v09 v19 v29 v39 v49 fa09 fa19 fa29 fa39 fa49
      generalize World.setCell _ ⟨W.heap.size, 2, none⟩ (.slice (some ⟨gz, 0, none⟩) l.length cap9) = w12 at q12 xa12 rC hg12 ⊢
      have X12 : B5 W w12 nodes sent (.slice (some ⟨gz, 0, none⟩) l.length cap9) (.slice ba bl bc) lost 4 f t (i : Int) (j : Int) (m : Int) (.slice oa ol oc) :=
        ⟨xa12, (q12 _ (by omega) (by omega) (by omega)).trans X9.out.xb, (q12 _ (by omega) (by omega) (by omega)).trans X9.out.xc, (q12 _ (by omega) (by omega) (by omega)).trans X9.out.xd, (q12 _ (by omega) (by omega) (by omega)).trans X9.out.xe, hg12⟩
      have b12 : w12.heap[g8]? = wr.heap[g8]? := (q12 g8 (by omega) (by omega) (by omega)).trans (G9.out.block g8 hg8r (by omega))
      have HX12 := Lib.hid X12
      have R12 := Lib.hid rC
      have B12 := Lib.hid b12
      obtain ⟨a0, a1', a2, a3, a4, _⟩ := five X12.xa
      obtain ⟨c0, c1, c2, c3, c4, c5, c6, c7, c8, c9⟩ := five X12.xc
      obtain ⟨d0, d1, d2, d3, d4, d5, d6, d7, d8, d9⟩ := five X12.xd
      obtain ⟨e0, e1, e2, e3, e4, _⟩ := five X12.xe
      have hgz' := Lib.hid hgz
      clear X12 rC b12 q12 xa12 hg12 u09 u19 u29 u39 u49 a09 a19 a29 a39 a49 b09 b19 b29 b39 b49 b59 b69 u0r u1r u2r u3r u4r v0r v1r v2r v3r v4r a0r a1r a2r a3r a4r fa0r fa1r fa2r fa3r fa4r b0r b1r b2r b3r b4r b5r b6r y0 y1 y2 y3 y4
      go_region
      all_goals
        go_wp2
        refine bodyPost_ret (v := .tuple #[rv nodes sent (.slice (some ⟨gz, 0, none⟩) l.length cap9) (.slice ba bl bc) lost, zdv, .bool false, .int .i64 0]) (by simp [results, Try.results13, go_sem, c0, c1, c2, c3, c4, d0, d1, d2, d3, d4]) rfl ?_
        have key : ∀ w', G0 W w' → (∀ k, k ≠ W.heap.size + 1 + 1 → k ≠ W.heap.size + 1 + 1 + 1 → w'.heap[k]? = w12.heap[k]?) → Rg (fun k => Y k ∨ W.heap.size ≤ k) w' (.slice (some ⟨gz, 0, none⟩) l.length cap9) (l.set i ⟨d.f, d.t, d.n, some ⟨g8, 0, none⟩, cap8, trd d.by' j m 4, true⟩) := fun w' gw hk => by
          refine ⟨?_, fun k e => .inr (by cases e; show W.heap.size ≤ gz; have := hgz'.out; have := Zr.out; omega), fun x hx => ?_⟩
          · rw [List.length_set]
            exact ownsRow_of_block R12.out (fun k e => hk k (by cases e; show gz ≠ _; have := hgz'.out; have := Zr.out; omega) (by cases e; show gz ≠ _; have := hgz'.out; have := Zr.out; omega))
          · rcases List.mem_or_eq_of_mem_set hx with hx | rfl
            · have h1 := (Hh.out.byt x hx).keep (W' := w') (fun k hk => gw.block k (HY.out k hk) (fun e => e))
              exact ⟨h1.1, fun b off e => (h1.2.1 b off e).imp id .inl, h1.2.2⟩
            · refine ⟨?_, fun b off e => .inr (.inr (by cases e; omega)), by show (trd d.by' j m 4).length ≤ 1212; rw [Hln.out]; omega⟩
              show Sl w' (.slice (some ⟨g8, 0, none⟩) (trd d.by' j m 4).length cap8) (trd d.by' j m 4)
              rw [Hln.out]
              exact HO.out.sl.blk (fun b off len cap e _ => by cases e; exact (hk g8 (by omega) (by omega)).trans B12.out)
        refine ⟨_, _, _, _, rfl, ⟨_, _, rfl, rfl, rfl, rfl, ?_, key _ ?_ ?_⟩, ?_⟩
        · rw [← ht4.out]; rfl
        · exact (fin10 HX12.out.xg _ _ _ _ _ _ _ _ _ _).trans (Gr.drew _ _)
        · intro k h1 h2
          exact keep10 h1 h2 _ _ _ _ _ _ _ _ _ _
        · exact (fin10 HX12.out.xg _ _ _ _ _ _ _ _ _ _).trans (Gr.drew _ _)
end Go.Proofs.Ytjffhnpoipolfaa
