/-
  A frame's bytes: laid, Pack.
-/
import Derived.Test.YtnaapgjjombdpaaC
namespace Go.Proofs.Ytnaapgjjombdpaa
open Go.RowKit Go.Maps
variable {S S' : Nat → Prop} {W W1 W' : World}

def head (f t bo : Nat) : List Nat := [82, 75, f, t, bo / 16777216, bo / 65536 % 256, bo / 256 % 256, bo % 256]
def low4 (s : Nat) : List Nat := [s % 256, s / 256 % 256, s / 65536 % 256, s / 16777216]
/-- A frame's bytes. -/
def wire (f t bo : Nat) (l : List Nat) : List Nat := (head f t bo ++ l) ++ low4 (sum (head f t bo ++ l))
theorem head_byte {f t bo : Nat} (hf : f < 256) (ht : t < 256) (hb : bo < 4294967296) : ∀ x ∈ head f t bo, x < 256 := by
  intro x hx
  simp only [head, List.mem_cons, List.not_mem_nil, or_false] at hx
  omega
theorem low4_byte {s : Nat} (h : s < 4294967296) : ∀ x ∈ low4 s, x < 256 := by
  intro x hx
  simp only [low4, List.mem_cons, List.not_mem_nil, or_false] at hx
  omega

theorem fr_cells {b : Nat} {x y z u : Value} {ty : TypeId} (h : W.heap[b]? = some (.cells #[x, y, z, u] ty (0, 0))) :
    W.cell? ⟨b, 0, none⟩ = some x ∧ W.cell? ⟨b, 1, none⟩ = some y ∧ W.cell? ⟨b, 2, none⟩ = some z ∧ W.cell? ⟨b, 3, none⟩ = some u := by
  simp [World.cell?, h]
theorem Ow.made (base : Nat) (W : World) (c : Nat) (hb : base ≤ W.heap.size) (hc : c ≤ 100000) : Ow base (W.alloc (.cells (madeCells #[.int .u8 0] c) 5)) (.slice (some ⟨W.heap.size, 0, none⟩) 0 c) [] :=
  ⟨by simp, by simp, World.ownsRow_made W _ c hb (by unfold maxLen; omega) (by rw [size_madeCells, Nat.mul_one])⟩
theorem mk_run (w : World) (n base : Nat) (hn : n ≤ 1200) (hb : base ≤ w.heap.size) : ∃ v w', (Instr.makeSlice 22 (.int .i64 0) (.int .i64 (8 + (n : Int) + 4))).run Try.prog w = .ok v w' ∧ Ow base w' v [] ∧ v ≠ .slice none 0 0 ∧ G0 w w' := by
  obtain ⟨i0, hi, hz0, hz1, hz2⟩ := info_parts info5
  have := run_make (P := Try.prog) w 22 5 i0 (.int .u8 0) Try.underlying22 hi hz0 .i64 .i64 0 (8 + (n : Int) + 4) (by omega) (by omega) (by rw [hz2]; omega) (by omega)
  rw [hz1, show (8 + (n : Int) + 4).toNat = n + 12 by omega, Nat.mul_one] at this
  exact ⟨_, _, this, Ow.made base w (n + 12) hb (by omega), by simp, Gr.alloc _ _ _⟩
theorem u8n (x y : Nat) (n : Int) (h : n = (x : Int)) (hy : x % 256 = y) : IntKind.u8.wrap n = (y : Int) := by rw [IntKind.wrap_u8']; omega
theorem lit4 (base : Nat) (W : World) (a b c d : Nat) (ha : a < 256) (hb : b < 256) (hc : c < 256) (hd : d < 256) (hw : base ≤ W.heap.size) :
    Ow base (W.alloc (.cells #[.int .u8 (a : Int), .int .u8 (b : Int), .int .u8 (c : Int), .int .u8 (d : Int)] 5)) (.slice (some ⟨W.heap.size, 0, none⟩) 4 4) [a, b, c, d] := by
  refine Ow.lit base W [a, b, c, d] ?_ (by simp) hw _ rfl 4 rfl
  intro x hx
  simp only [List.mem_cons, List.not_mem_nil, or_false] at hx
  omega
/-- A row of the call's own, and the frame that the call was handed. -/
structure Ly (W W0 : World) (B : Nat) (u : Obj) (w : World) (v : Value) (l : List Nat) : Prop where
  row : Ow (B + 1) w v l
  new : v ≠ .slice none 0 0
  gr : Gr (fun k => B + 1 ≤ k) W0 w
  box : w.heap[B]? = some u
theorem Ly.step {W0 w w' : World} {B : Nat} {u : Obj} {v v' : Value} {l m : List Nat} (h : Ly W W0 B u w v l) (g : Gr (fun k => B + 1 ≤ k) w w') (hr : Ow (B + 1) w' v' m) (hn : v' ≠ .slice none 0 0) (hB : B < w.heap.size) : Ly W W0 B u w' v' m :=
  ⟨hr, hn, h.gr.trans g, (g.block B hB (by omega)).trans h.box⟩

set_option maxRecDepth 20000 in
set_option maxHeartbeats 1600000 in
theorem laid_c (W : World) (f t bo : Nat) (v : Value) (l : List Nat) (h : Sl W v l) (hf : f < 256) (ht : t < 256) (hb : bo < 4294967296) (hl : l.length ≤ 1200) :
    Calls Try.prog 20 #[fr f t bo v] W fun e w' => ∃ v', e = .returned v' ∧ Ow W.heap.size w' v' (wire f t bo l) ∧ v' ≠ .slice none 0 0 ∧ G0 W w' := by
  obtain ⟨a, cap, rfl, h1, h2, -⟩ := h.sv
  have g0 : G0 W (W.alloc (.cells #[.int .i64 f, .int .i64 t, .int .u32 bo, .slice a l.length cap] 28)) := Gr.alloc _ _ _
  have hB := heap_alloc_new W (.cells #[.int .i64 f, .int .i64 t, .int .u32 bo, .slice a l.length cap] 28)
  have hs0 : (W.alloc (.cells #[.int .i64 f, .int .i64 t, .int .u32 bo, .slice a l.length cap] 28)).heap.size = W.heap.size + 1 := by simp
  have wf : IntKind.u8.wrap (f : Int) = f := u8n f f _ rfl (by omega)
  have wt : IntKind.u8.wrap (t : Int) = t := u8n t t _ rfl (by omega)
  obtain ⟨b0, e0, l0⟩ : ∃ b, bo / 16777216 = b ∧ b < 256 := ⟨_, rfl, by omega⟩
  obtain ⟨b1, e1, l1⟩ : ∃ b, bo / 65536 % 256 = b ∧ b < 256 := ⟨_, rfl, by omega⟩
  obtain ⟨b2, e2, l2⟩ : ∃ b, bo / 256 % 256 = b ∧ b < 256 := ⟨_, rfl, by omega⟩
  obtain ⟨b3, e3, l3⟩ : ∃ b, bo % 256 = b ∧ b < 256 := ⟨_, rfl, by omega⟩
  have w0 : IntKind.u8.wrap ((bo : Int) / 16777216) = b0 := u8n (bo / 16777216) b0 _ rfl (by omega)
  have w1 : IntKind.u8.wrap ((bo : Int) / 65536) = b1 := u8n (bo / 65536) b1 _ rfl (by omega)
  have w2 : IntKind.u8.wrap ((bo : Int) / 256) = b2 := u8n (bo / 256) b2 _ rfl (by omega)
  have w3 : IntKind.u8.wrap (bo : Int) = b3 := u8n bo b3 _ rfl (by omega)
  have eh : head f t bo = [82, 75, f, t] ++ [b0, b1, b2, b3] := by simp [head, e0, e1, e2, e3]
  obtain ⟨wi, hwi⟩ : ∃ wi, wi = wire f t bo l := ⟨_, rfl⟩
  rw [← hwi]
  have Hw : Hid (wi = ([82, 75, f, t] ++ [b0, b1, b2, b3] ++ l) ++ low4 (sum ([82, 75, f, t] ++ [b0, b1, b2, b3] ++ l))) := Lib.hid (by rw [hwi, wire, eh])
  clear eh hwi e0 e1 e2 e3
  obtain ⟨L, hL⟩ : ∃ L, [82, 75, f, t] ++ [b0, b1, b2, b3] ++ l = L := ⟨_, rfl⟩
  have HL := Lib.hid hL
  have hLl : L.length ≤ 1300 := by rw [← hL]; simp; omega
  rw [hL] at Hw
  clear hL
  obtain ⟨V, wm, hmk, om, nm, gm⟩ := mk_run _ l.length (W.heap.size + 1) hl (Nat.le_of_eq hs0.symm)
  have hLy : Ly W _ W.heap.size _ wm V [] := ⟨om, nm, Gr.mono gm (fun _ _ e => e.elim), (gm.block _ (by rw [hs0]; omega) (fun e => e)).trans hB⟩
  have hw : W.heap.size + 1 ≤ wm.heap.size := by have := gm.size; omega
  go_enter Try.func20, Try.ntmps20
  have hcm := fr_cells hLy.box
  clear gm om nm
  go_wp2_with (at_builtin; first
    | (refine wpList_app _ rfl _ _ rfl (W.heap.size + 1) V _ [] [82, 75, f, t] rfl rfl (hLy.row.g0 (Gr.alloc _ _ _)) (lit4 0 wm 82 75 f t (by omega) (by omega) hf ht (Nat.zero_le _)).sl (by simp) (by simp; omega) ?_
       intro v1 w1 o1 g1 n1
       have hLy1 := hLy.step ((Gr.alloc _ _ _).trans ((hLy.row.g0 (Gr.alloc wm _ _)).grown g1)) o1 (fun e => hLy.new (n1 e).1) (by omega)
       have hcm1 := fr_cells hLy1.box
       have hw1 : W.heap.size + 1 ≤ w1.heap.size := by have := g1.size; simp at this; omega)
    | (refine wpList_app _ rfl _ _ rfl (W.heap.size + 1) v1 _ [82, 75, f, t] [b0, b1, b2, b3] rfl rfl (hLy1.row.g0 (Gr.alloc _ _ _)) (lit4 0 w1 b0 b1 b2 b3 l0 l1 l2 l3 (Nat.zero_le _)).sl (by simp) (by simp; omega) ?_
       intro v2 w2 o2 g2 n2
       have hLy2 := hLy1.step ((Gr.alloc _ _ _).trans ((hLy1.row.g0 (Gr.alloc w1 _ _)).grown g2)) o2 (fun e => hLy1.new (n2 e).1) (by omega)
       have hcm2 := fr_cells hLy2.box
       have hw2 : W.heap.size + 1 ≤ w2.heap.size := by have := g2.size; simp at this; omega)
    | (refine wpList_app _ rfl _ _ rfl (W.heap.size + 1) v2 _ ([82, 75, f, t] ++ [b0, b1, b2, b3]) l rfl rfl hLy2.row (h.gr (g0.new hLy2.gr (Nat.le_succ _)) (fun _ _ _ _ _ e => e)) (by simp; omega) (by omega) ?_
       intro v3 w3 o3 g3 n3
       rw [HL.out] at o3
       have hLy3 := hLy2.step (hLy2.row.grown g3) o3 (fun e => hLy2.new (n3 e).1) (by omega)
       have hw3 : W.heap.size + 1 ≤ w3.heap.size := by have := g3.size; omega))
  refine (sum_c w3 v3 L hLy3.row.sl).mono ?_
  rintro e w4 ⟨rfl, rfl⟩
  have hsl := sum_lt L hLy3.row.byte
  generalize sum L = s at *
  obtain ⟨s0, p0, q0⟩ : ∃ b, s % 256 = b ∧ b < 256 := ⟨_, rfl, by omega⟩
  obtain ⟨s1, p1, q1⟩ : ∃ b, s / 256 % 256 = b ∧ b < 256 := ⟨_, rfl, by omega⟩
  obtain ⟨s2, p2, q2⟩ : ∃ b, s / 65536 % 256 = b ∧ b < 256 := ⟨_, rfl, by omega⟩
  obtain ⟨s3, p3, q3⟩ : ∃ b, s / 16777216 = b ∧ b < 256 := ⟨_, rfl, by omega⟩
  have x0 : IntKind.u8.wrap (s : Int) = s0 := u8n s s0 _ rfl (by omega)
  have x1 : IntKind.u8.wrap ((s : Int) / 256) = s1 := u8n (s / 256) s1 _ rfl (by omega)
  have x2 : IntKind.u8.wrap ((s : Int) / 65536) = s2 := u8n (s / 65536) s2 _ rfl (by omega)
  have x3 : IntKind.u8.wrap ((s : Int) / 16777216) = s3 := u8n (s / 16777216) s3 _ rfl (by omega)
  have Hw2 : Hid (wi = L ++ [s0, s1, s2, s3]) := Lib.hid (by rw [Hw.out]; simp [low4, p0, p1, p2, p3])
  clear p0 p1 p2 p3
  go_wp2_with (at_builtin; first
    | (refine wpList_app _ rfl _ _ rfl (W.heap.size + 1) v3 _ L [s0, s1, s2, s3] rfl rfl (hLy3.row.g0 (Gr.alloc _ _ _)) (lit4 0 w3 s0 s1 s2 s3 q0 q1 q2 q3 (Nat.zero_le _)).sl (by simp; omega) (by simp; omega) ?_
       intro v5 w5 o5 g5 n5
       have hLy5 := hLy3.step ((Gr.alloc _ _ _).trans ((hLy3.row.g0 (Gr.alloc w3 _ _)).grown g5)) o5 (fun e => hLy3.new (n5 e).1) (by omega)))
  go_ret
  refine ⟨v5, rfl, ?_, hLy5.new, g0.new hLy5.gr (Nat.le_succ _)⟩
  rw [Hw2.out]
  exact hLy5.row.mono (Nat.le_succ _)

/-- How Pack ends. -/
def EndP (W : World) (f t bo : Nat) (l : List Nat) (e : Ending) (w' : World) : Prop :=
  (chk f t bo l.length ≠ 0 ∧ e = .returned (.agg #[.slice none 0 0, .int .i64 (chk f t bo l.length)])) ∨
  (chk f t bo l.length = 0 ∧ ∃ v', e = .returned (.agg #[v', .int .i64 0]) ∧ Ow W.heap.size w' v' (wire f t bo l) ∧ v' ≠ .slice none 0 0)
end Go.Proofs.Ytnaapgjjombdpaa
