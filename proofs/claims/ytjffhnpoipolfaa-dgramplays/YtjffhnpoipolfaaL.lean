/-
  The chapter's examples: alive.
-/
import Derived.Test.YtjffhnpoipolfaaJ
import Derived.Test.YtjffhnpoipolfaaK
import Derived.Lib.SlBytesConst
set_option linter.unusedVariables false
set_option linter.unusedSimpArgs false
namespace Go.Proofs.Ytjffhnpoipolfaa
open Go.RowKit Go.Maps Go.WideMaps
variable {S S' : Nat → Prop} {W W1 W' : World}

/-- A net of the call's own. -/
structure Hd (W0 W : World) (s : Ns) : Prop where
  g : G0 W0 W
  nt : Nt W s
  fp : ∀ k, Fp s k → W0.heap.size ≤ k
theorem Hd.step {W0 : World} {s s' : Ns} (h : Hd W0 W s) (k : Nx W s W' s') : Hd W0 W' s' :=
  ⟨h.g.trans' k.gr (fun i hi e => by have := h.fp i e; omega), k.nt, fun i hi => by
    rcases k.fp i hi with e | e | e
    · exact h.fp i e
    · have := h.g.size; omega
    · exact e.elim⟩
theorem Hd.g0 {W0 : World} {s : Ns} (h : Hd W0 W s) (g : G0 W W') : Hd W0 W' s := ⟨h.g.trans g, h.nt.g0 g, h.fp⟩
theorem put_one {s s' : Ns} {f t : Int} {n : Nat} {l : List Nat} {sp : Bool} (h : Put s s' f t n l sp) (hl : (s.q none).length < 1024) : s'.lost = s.lost ∧ ∃ bk, s'.q = upd s.q none (s.q none ++ [⟨f, t, n, bk, l, sp⟩]) := by
  rcases h with ⟨_, h1, h2⟩ | ⟨h0, _, _⟩
  · exact ⟨h1, h2⟩
  · omega
/-- Bytes as a text. -/
def str (l : List Nat) : ByteArray := ⟨(l.map UInt8.ofNat).toArray⟩
theorem conv {v : Value} {l : List Nat} (h : Sl W v l) : (convert 34 9 v).run Try.prog W = .ok (.string (str l)) W := by
  rcases h.at' with ⟨rfl, rfl⟩ | ⟨a, cap, rfl, h1, h2, h3⟩
  · rw [run_convert_bytes_string W 34 9 5 none 0 0 Try.underlying34 Try.underlying5 Try.underlying9]; rfl
  · have := run_convert_bytes_back (P := Try.prog) W 34 9 5 a cap (l.map UInt8.ofNat) Try.underlying34 Try.underlying5 Try.underlying9 (fun j hj => by
      rw [List.length_map] at hj
      rw [h3 j hj, List.getD_eq_getElem?_getD, List.getElem?_eq_getElem hj]
      have := h.byte _ (List.getElem_mem hj)
      simp only [List.getElem_map, Option.getD_some, UInt8.toNat_ofNat']
      congr 2
      omega)
    rw [List.length_map] at this
    exact this
theorem sl_blk {b : Nat} {l : List Nat} (h : W.heap[b]? = some (.cells (bs l).toArray 5 (0, 0))) (hb : ∀ x ∈ l, x < 256) (hl : l.length ≤ 1212) : Sl W (.slice (some ⟨b, 0, none⟩) l.length l.length) l :=
  ⟨hb, by omega, .inr ⟨⟨b, 0, none⟩, _, rfl, Nat.le_refl _, by omega, fun j hj => by rw [Addr.add_lit, Nat.zero_add]; exact (byte_at h hj).1⟩⟩
theorem nx_z {s s' : Ns} (h : Nx W s W' s') : s'.z ≤ s.z + 4 := h.z
theorem lit1 (w : World) (x : Nat) (fr : Nat × Nat) (hx : x < 256) : Sl (w.alloc (.cells #[.int .u8 (x : Int)] 5 fr)) (.slice (some ⟨w.heap.size, 0, none⟩) 1 1) [x] := by
  refine ⟨by simpa using hx, by simp, .inr ⟨_, 1, rfl, by simp, by simp, fun i hi => ?_⟩⟩
  obtain rfl : i = 0 := by simpa using hi
  have h := heap_alloc_new w (.cells #[.int .u8 (x : Int)] 5 fr)
  rw [Addr.add_lit]
  simp only [World.cell?, Nat.add_zero, h]
  rfl
set_option maxRecDepth 20000 in
set_option maxHeartbeats 1600000 in
theorem alive_c (W : World) : Calls Try.prog 8 #[] W fun e w' => e = .returned (.bool true) ∧ G0 W w' := by
  go_enter Try.func8, Try.ntmps8
  go_wp2_with fail
  refine (new_c W 2 (by decide)).mono ?_
  rintro e w1 ⟨s1, rfl, hn1, hg1, hs1, hf1⟩
  have H1 : Hd W w1 s1 := ⟨hg1, hn1, hf1⟩
  have hz1 : s1.z = 0 := by rw [hs1]; rfl
  have hq1 : s1.q = fun _ => [] := by rw [hs1]; rfl
  have hd1 : s1.nodes = 2 := by rw [hs1]; rfl
  have ht1 : s1.sent = 0 := by rw [hs1]; rfl
  have hp1 : s1.p < w1.heap.size := hn1.lt (.inl rfl)
  clear hn1 hg1 hf1 hs1
  have hcc := Lib.run_convert_bytes_const (P := Try.prog) w1 34 5 #[.int .u8 97] 1 1 Try.underlying34 Try.underlying5
  go_wp2_with fail
  have g2 := Gr.alloc w1 (.cells #[.int .u8 97] 5 (1, 2)) (fun _ => False)
  have hsl := lit1 w1 97 (1, 2) (by decide)
  refine (send_c _ s1 (H1.g0 g2).nt (by omega) 1 2 _ [97] hsl (fun b off len cap e hb => by cases e; have := H1.nt.lt hb; omega) (by rw [hd1]; decide) (by simp)).mono ?_
  rintro e w2 ⟨rfl, s2, hx2, ht2, hpu2⟩
  have H2 := (H1.g0 g2).step hx2
  have hz2 := hx2.z
  obtain ⟨_, bk2, hq2⟩ := put_one hpu2 (by rw [hq1]; simp)
  have hd2 := hx2.nodes
  have hpp2 := Lib.hid hx2.p
  rw [hq1] at hq2
  rw [ht1] at ht2 hq2
  have hq2n : s2.q none = [⟨1, 2, 1, bk2, [97], false⟩] := by rw [hq2]; simp
  have hq2s : ∀ k, s2.q (some k) = [] := fun k => by rw [hq2, upd_other _ _ (by simp)]
  clear hx2 hpu2 hsl g2 hq2
  go_wp2_with fail
  have tw := twin_c w2 s2 H2.nt (by omega) 0 ⟨1, 2, 1, bk2, [97], false⟩ (by rw [hq2n]; rfl)
  rw [hpp2.out] at tw
  refine tw.mono ?_
  clear tw
  rintro e w3 ⟨rfl, s3, hx3, ht3, hpu3⟩
  have H3 := H2.step hx3
  have hz3 := hx3.z
  obtain ⟨_, bk3, hq3⟩ := put_one hpu3 (by rw [hq2n]; simp)
  have hd3 := hx3.nodes
  have hpp3 := Lib.hid (hx3.p.trans hpp2.out)
  have hq3n : s3.q none = [⟨1, 2, 1, bk2, [97], false⟩, ⟨1, 2, 1, bk3, [97], false⟩] := by rw [hq3, hq2n]; simp
  have hq3s : ∀ k, s3.q (some k) = [] := fun k => by rw [hq3, upd_other _ _ (by simp)]; exact hq2s k
  clear hx3 hpu3 hq3
  go_wp2_with fail
  have tw := deliver_c w3 s3 H3.nt (by omega) 0 ⟨1, 2, 1, bk2, [97], false⟩ (by rw [hq3n]; rfl)
  rw [hpp3.out] at tw
  refine tw.mono ?_
  clear tw
  rintro e w4 ⟨rfl, s4, hx4, ht4, hca4⟩
  have H4 := H3.step hx4
  have hz4 := hx4.z
  have hd4 := hx4.nodes
  have hpp4 := Lib.hid (hx4.p.trans hpp3.out)
  have hq4 : s4.q none = [⟨1, 2, 1, bk3, [97], false⟩] ∧ s4.q (some 2) = [⟨1, 2, 1, bk2, [97], false⟩] := by
    rcases hca4 with ⟨_, _, hq⟩ | ⟨h0, _, _⟩
    · rw [hq, hq3n]; simp only [hq3s]; exact ⟨by rw [upd_other _ _ (by simp), upd_same]; rfl, by rw [upd_same]; rfl⟩
    · rw [hq3s] at h0; simp at h0
  clear hx4 hca4
  go_wp2_with fail
  have tw := take_c w4 s4 H4.nt (by omega) 2 (by rw [hd4, hd3, hd2, hd1]; decide) _ [] hq4.2
  rw [hpp4.out] at tw
  refine tw.mono ?_
  clear tw
  rintro e w5 ⟨rfl, s5, hx5, ht5, hl5, hq5, hb5, hnf5⟩
  have H5 := H4.step hx5
  have hz5 := hx5.z
  have hd5 := hx5.nodes
  have hpp5 := Lib.hid (hx5.p.trans hpp4.out)
  have hq5n : s5.q none = [⟨1, 2, 1, bk3, [97], false⟩] := by rw [hq5, upd_other _ _ (by simp)]; exact hq4.1
  clear hx5 hq5
  have hcv : (convert 34 9 (.slice (some ⟨bk2, 0, none⟩) 1 1)).run Try.prog (w5.alloc (.cells #[.int .i64 1, .int .i64 2, .int .u64 1, .slice (some ⟨bk2, 0, none⟩) 1 1, .bool false] 39)) = .ok (.string ⟨#[97]⟩) (w5.alloc (.cells #[.int .i64 1, .int .i64 2, .int .u64 1, .slice (some ⟨bk2, 0, none⟩) 1 1, .bool false] 39)) := conv (l := [97]) ((sl_blk (l := [97]) hb5 (by simp) (by simp)).g0 (Gr.alloc w5 (.cells #[.int .i64 1, .int .i64 2, .int .u64 1, .slice (some ⟨bk2, 0, none⟩) 1 1, .bool false] 39) _))
  go_wp2_with fail
  have H6 := H5.g0 (Gr.alloc w5 (.cells #[.int .i64 1, .int .i64 2, .int .u64 1, .slice (some ⟨bk2, 0, none⟩) 1 1, .bool false] 39) _)
  have tw := flight_c _ s5 H6.nt
  rw [hpp5.out, hq5n] at tw
  refine tw.mono ?_
  clear tw
  rintro e w7 ⟨g7, l7, rfl, _, _, _, hg7⟩
  have H7 := H6.g0 hg7
  go_wp2_with fail
  have tw := send_node w7 s5 H7.nt 1 1 nl (by simp [may])
  rw [hpp5.out] at tw
  refine tw.mono ?_
  rintro e w8 ⟨rfl, rfl⟩
  go_wp2
  go_ret
  exact ⟨rfl, H7.g⟩
end Go.Proofs.Ytjffhnpoipolfaa
