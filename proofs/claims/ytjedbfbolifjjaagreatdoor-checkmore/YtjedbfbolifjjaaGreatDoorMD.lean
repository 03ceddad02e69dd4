/-
  Calls of nothing that is there.
  What the passes of Check ask.
-/
import Derived.Test.YtjedbfbolifjjaaGreatDoorKO
import Derived.Test.YtjedbfbolifjjaaGreatDoorGQ
import Derived.Test.YtjedbfbolifjjaaGreatDoorKH
import Derived.Test.YtjedbfbolifjjaaGreatDoorKN
set_option linter.unusedVariables false
set_option linter.unusedSimpArgs false
namespace Go.Proofs.YtjedbfbolifjjaaGreatDoor
open Go.RowKit Go.Maps
variable {W W' : World}
/-- A function's head. -/
def hdT : Tr → ByteArray × Int
 | .mk _ s _ _ l => (s, (l.length : Int) - 1)
def hdsL (L : List (ByteArray × Int)) (l : List Tr) : List (ByteArray × Int) := l.foldl (fun L T => putH L (hdT T)) L
theorem putH_len (L : List (ByteArray × Int)) (h : ByteArray × Int) : (putH L h).length ≤ L.length + 1 := by
 unfold putH; split <;> simp
theorem hdsL_len (l : List Tr) : ∀ L, (hdsL L l).length ≤ L.length + l.length := by
 induction l with
 | nil => intro L; exact Nat.le_refl _
 | cons T l ih =>
  intro L
  have h1 := ih (putH L (hdT T))
  have h2 := putH_len L (hdT T)
  show (hdsL (putH L (hdT T)) l).length ≤ _
  rw [List.length_cons]; omega
theorem hOk_of {s : ByteArray} {n : Int} (hs : s.size ≤ 140737488351232) (h1 : -9223372036854775808 ≤ n) (h2 : n ≤ 9223372036854775807) : hOk (s, n) := by
 refine ⟨hs, ?_⟩
 simp only [Go.Lit.wf, Bool.and_eq_true, decide_eq_true_eq]
 exact ⟨h1, h2⟩
set_option maxRecDepth 100000 in
set_option maxHeartbeats 1600000 in
theorem has_c (W : World) (mb : Nat) (L : List (ByteArray × Int)) (s : ByteArray) (n : Int) (hM : Hs W mb L) (hk : hOk (s, n)) :
 Calls Tryz.prog 57 #[.map (some mb), .string s, .int .i64 n] W fun e w' => e = .returned (.bool (inH L (s, n))) ∧ Gr (fun _ => False) W w' := by
 have hlook := Hs.look hM hk
 have gA := Gr.alloc W (.cells #[] 87) (fun _ => False)
 generalize inH L (s, n) = r at hlook ⊢
 clear hM hk
 go_enter Tryz.func57, Tryz.ntmps57
 go_wp2_with fail
 go_ret
 exact ⟨rfl, gA⟩
set_option maxRecDepth 100000 in
set_option maxHeartbeats 1600000 in
theorem heads_c (N : Nat) (W : World) (g o : Nat) (k : Int) (s : ByteArray) (n : Int) (b : List Int) (l : List Tr) (hT : TAtG N W g o (.mk k s n b l)) (hs : Szs [Tr.mk k s n b l]) (hl : l.length ≤ 4000) (hg : g < N) (hN : N ≤ W.heap.size) :
 Calls Tryz.prog 49 #[ptr g o] W fun e w' => e = .returned (.map (some W.heap.size)) ∧ Hs w' W.heap.size (hdsL [] l) ∧ Gr (fun _ => False) W w' := by
 obtain ⟨ba, bc, la, lc, ⟨x0, x1, x2, x3, x4⟩, hrow, hgl⟩ := hT.parts
 have hszc : Hid (∀ i U, l[i]? = some U → szT U) := fun i U hi => hs U (by
  rw [preL_cons, preL_nil, List.append_nil]
  have := List.mem_of_getElem? hi
  obtain ⟨p, q, rfl⟩ := List.append_of_mem this
  rw [preL_app, show U :: q = [U] ++ q from rfl, preL_app]
  obtain ⟨uk, us, un, ub, ul⟩ := U
  rw [preL_cons]; simp)
 have hlI : (l.length : Int) ≤ 4000 := by omega
 have gM := Gr.alloc W (.map #[] 0) (fun _ => False)
 have hB0 := Hs.new W
 obtain ⟨mb, hmb⟩ : ∃ mb, W.heap.size = mb := ⟨_, rfl⟩
 have y4 := cell_gr x4 gM (fun e => e)
 have hmm : ∀ w, (Instr.makeMap 73 none).run Tryz.prog w = .ok (.map (some w.heap.size)) (w.alloc (.map #[] 0)) := fun _ => rfl
 have hgm : g < (W.alloc (.map #[] 0)).heap.size := by have := gM.size; omega
 rw [hmb] at hB0 ⊢
 replace hB0 := Lib.hid hB0
 replace hrow := Lib.hid hrow
 replace gM := Lib.hid gM
 clear hT x1 x2 x3 hs x0
 go_enter Tryz.func49, Tryz.ntmps49
 go_wp2_with fail
 try rw [hmb]
 clear hmm
 go_loopw [11] (fun u wr => ∃ i : Nat, i ≤ l.length ∧ u = .int .i64 (i : Int) ∧ Hid (Hs wr mb (hdsL [] (l.take i))) ∧ Gr (fun _ => False) W wr) (fun u _ => l.length - (intOf u).toNat)
 case atStart => exact ⟨0, Nat.zero_le _, rfl, by show Hs _ _ _; rw [List.take_zero]; exact hB0.out, gM.out⟩
 case round =>
  obtain ⟨i, hi, rfl, hBi, hG⟩ := hrel
  have z4 := cell_gr x4 hG (fun e => e)
  have hsz := hG.size
  have hgw : g < wr.heap.size := by omega
  by_cases hlt : i < l.length
  ·
   have hd : decide ((i : Int) < (l.length : Int)) = true := by simp; omega
   have hTi : l[i]? = some l[i] := List.getElem?_eq_getElem hlt
   obtain ⟨g', o', rfl, hg', hTA⟩ := hrow.out i _ hTi
   have hsU := hszc.out i _ hTi
   have est : hdsL [] (l.take (i + 1)) = putH (hdsL [] (l.take i)) (hdT l[i]) := by
    unfold hdsL; rw [List.take_add_one, hTi, List.foldl_append]; rfl
   have hLl : (hdsL [] (l.take i)).length ≤ 1000000 := by
    have := hdsL_len (l.take i) []
    rw [List.length_take] at this
    simp at this; omega
   generalize l[i] = U at hTA hsU est
   obtain ⟨uk, us, un, ub, ul⟩ := U
   have hh := Lib.hid (head_c N wr g' (o' + i * 5) uk us un ub ul (hTA.g0 hG hg') hsU.2)
   have hu1 : us.size ≤ 140737488351232 := hsU.1
   have hu2 : ul.length ≤ 4611686018427387904 := hsU.2
   have hput := Lib.hid (fun w1 (g1 : Gr (fun _ => False) wr w1) => Hs.put (hBi.out.gr g1 (fun e => e)) (s := us) (n := (ul.length : Int) - 1) (hOk_of hu1 (by omega) (by omega)) hLl)
   have hgw' : g' < wr.heap.size := by omega
   replace est : Hid (hdsL [] (l.take (i + 1)) = putH (hdsL [] (l.take i)) (us, (ul.length : Int) - 1)) := est
   have hb := Lib.hid hi
   clear hTA hTi hsU hu1 hu2 hLl y4
   generalize (ul.length : Int) - 1 = m at *
   go_wp2_with fail
   refine hh.out.mono ?_
   rintro e w1 ⟨rfl, g1⟩
   obtain ⟨w', hp, hH', gp, hs'⟩ := hput.out w1 g1
   have hH2 : Hid (Hs w' mb (hdsL [] (l.take (i + 1)))) := by show Hs _ _ _; rw [est.out]; exact hH'
   clear hH'
   have G4 : Gr (fun _ => False) W w' := (hG.trans g1).trans' gp (fun k hk e => absurd e (by omega))
   go_wp2_with fail
   exact ⟨⟨i + 1, hlt, by go_num, hH2, G4⟩, by simp [intOf]; omega⟩
  ·
   have hd : decide ((i : Int) < (l.length : Int)) = false := by simp; omega
   obtain rfl : i = l.length := by omega
   have hbb := hBi.out
   rw [List.take_length] at hbb
   replace hbb := Lib.hid hbb
   go_wp2_with fail
   go_ret
   exact ⟨rfl, hbb.out, hG⟩
/-- What the closure reads. -/
abbrev SU (g o : Nat) (k : Int) (s : ByteArray) (la : Option Addr) (n lc u mb : Nat) (w : World) : Prop := w.cell? ⟨g, o, none⟩ = some (.int .i64 k) ∧ w.cell? ⟨g, o + 1, none⟩ = some (.string s) ∧ w.cell? ⟨g, o + 4, none⟩ = some (.slice la n lc) ∧ w.cell? ⟨u, 0, none⟩ = some (.map (some mb))
theorem SU.gr {g o : Nat} {k : Int} {s : ByteArray} {la : Option Addr} {n lc u mb : Nat} (h : SU g o k s la n lc u mb W) (gr : Gr (fun _ => False) W W') : SU g o k s la n lc u mb W' := by
 obtain ⟨h0, h1, h4, h5⟩ := h
 exact ⟨cell_gr h0 gr (fun e => e), cell_gr h1 gr (fun e => e), cell_gr h4 gr (fun e => e), cell_gr h5 gr (fun e => e)⟩
def HsAt (u mb : Nat) (L : List (ByteArray × Int)) (W : World) : Prop := W.cell? ⟨u, 0, none⟩ = some (.map (some mb)) ∧ Hs W mb L ∧ Bu W
def uncV (L : List (ByteArray × Int)) : Tr → Bool
 | .mk k s _ _ l => (k == 11) && ((biV s (l.length : Int) : Int) == 0) && !inH L (s, (l.length : Int))
set_option maxRecDepth 100000 in
set_option maxHeartbeats 3200000 in
theorem unc_so (N u mb : Nat) (L : List (ByteArray × Int)) : So N 74 #[ptr u 0] (HsAt u mb L) szT (uncV L) := by
 refine ⟨ent_of Tryz.func74 (by kernel_rfl) rfl, fun _ _ h g => ⟨cell_gr h.1 g (fun e => e), h.2.1.gr g (fun e => e), Bu.gr h.2.2 g (fun e => e)⟩, fun W g o T hI hs hT hg hN => ?_⟩
 obtain ⟨k, s, n, b, l⟩ := T
 obtain ⟨xu, hH, hB⟩ := hI
 obtain ⟨ba, bc, la, lc, ⟨x0, x1, x2, x3, x4⟩, hrow, hgl⟩ := hT.parts
 have hs1 : s.size ≤ 140737488351232 := hs.1
 have hs2 : l.length ≤ 4611686018427387904 := hs.2
 show Calls Tryz.prog 74 #[ptr g o, ptr u 0] W fun e w' => e = .returned (.bool ((k == 11) && ((biV s (l.length : Int) : Int) == 0) && !inH L (s, (l.length : Int)))) ∧ Gr (fun _ => False) W w'
 have hbi := Lib.hid (fun w (gw : Gr (fun _ => False) W w) => builtin_c w s (l.length : Int) (Bu.gr hB gw (fun e => e)))
 have hhas := Lib.hid (fun w (gw : Gr (fun _ => False) W w) => has_c w mb L s (l.length : Int) (hH.gr gw (fun e => e)) (hOk_of hs1 (by omega) (by omega)))
 generalize biV s (l.length : Int) = q at hbi ⊢
 generalize inH L (s, (l.length : Int)) = r at hhas ⊢
 have S0 : SU g o k s la l.length lc u mb W := ⟨x0, x1, x4, xu⟩
 have G0 : Gr (fun _ => False) W W.drew := Gr.drew _ _
 have TS : SU g o k s la l.length lc u mb W.drew := SU.gr S0 G0
 replace S0 := Lib.hid S0
 have hgd : g < W.drew.heap.size := hgl
 clear hrow hT x0 x1 x2 x3 x4 xu hH hB hs
 cases hk : k == 11 with
 | false =>
  go_enter Tryz.func74, Tryz.ntmps74
  go_wp2_with fail
  refine wp_region_L (L := 100) (T := SU g o k s la l.length lc u mb) (by kernel_rfl) ?_
  refine wpAnyN_at (i := 0) (v := ptr g o) (some 4) rfl rfl (by kernel_rfl) (by kernel_rfl) (by kernel_rfl) (by kernel_rfl) (fun _ _ _ h => h) (Or.inl ⟨by rfl, ?_⟩) TS ?_
  · intro w hSw
    obtain ⟨q0, q1, q4, qu⟩ := hSw
    go_simp
    try (intro h; exfalso; omega)
  try simp only [Act.put, sa1, sa2, sa3]
  refine wpAnyN_at (i := 1) (v := ptr g o) (some 5) rfl rfl (by kernel_rfl) (by kernel_rfl) (by kernel_rfl) (by kernel_rfl) (fun _ _ _ h => h) (Or.inl ⟨by rfl, ?_⟩) TS ?_
  · intro w hSw
    obtain ⟨q0, q1, q4, qu⟩ := hSw
    go_simp
    try (intro h; exfalso; omega)
  try simp only [Act.put, sa1, sa2, sa3]
  refine wpAnyN_at (i := 2) (v := ptr g o) (some 6) rfl rfl (by kernel_rfl) (by kernel_rfl) (by kernel_rfl) (by kernel_rfl) (fun _ _ _ h => h) (Or.inl ⟨by rfl, ?_⟩) TS ?_
  · intro w hSw
    obtain ⟨q0, q1, q4, qu⟩ := hSw
    go_simp
    try (intro h; exfalso; omega)
  try simp only [Act.put, sa1, sa2, sa3]
  refine wpAnyN_at (i := 3) (v := .int .i64 k) (some 7) rfl rfl (by kernel_rfl) (by kernel_rfl) (by kernel_rfl) (by kernel_rfl) (fun _ _ _ h => h) (Or.inl ⟨by rfl, ?_⟩) TS ?_
  · intro w hSw
    obtain ⟨q0, q1, q4, qu⟩ := hSw
    go_simp
    try (intro h; exfalso; omega)
  try simp only [Act.put, sa1, sa2, sa3]
  refine wpAnyN_at (i := 4) (v := .bool false) (some 8) rfl rfl (by kernel_rfl) (by kernel_rfl) (by kernel_rfl) (by kernel_rfl) (fun _ _ _ h => h) (Or.inl ⟨by rfl, ?_⟩) TS ?_
  · intro w hSw
    obtain ⟨q0, q1, q4, qu⟩ := hSw
    go_simp
    try (intro h; exfalso; omega)
  try simp only [Act.put, sa1, sa2, sa3]
  refine wpAnyN_at (i := 5) (v := .bool false) (some 9) rfl rfl (by kernel_rfl) (by kernel_rfl) (by kernel_rfl) (by kernel_rfl) (fun _ _ _ h => h) (Or.inl ⟨by rfl, ?_⟩) TS ?_
  · intro w hSw
    obtain ⟨q0, q1, q4, qu⟩ := hSw
    go_simp
    try (intro h; exfalso; omega)
  try simp only [Act.put, sa1, sa2, sa3]
  refine wpAnyN_at (i := 6) (v := undef) (some 10) rfl rfl (by kernel_rfl) (by kernel_rfl) (by kernel_rfl) (by kernel_rfl) (fun _ _ _ h => h) (Or.inr ⟨by rfl, rfl⟩) TS ?_
  try simp only [Act.put, sa1, sa2, sa3]
  refine wpAnyN_at (i := 7) (v := undef) (some 11) rfl rfl (by kernel_rfl) (by kernel_rfl) (by kernel_rfl) (by kernel_rfl) (fun _ _ _ h => h) (Or.inr ⟨by rfl, rfl⟩) TS ?_
  try simp only [Act.put, sa1, sa2, sa3]
  refine wpAnyN_at (i := 8) (v := undef) (some 12) rfl rfl (by kernel_rfl) (by kernel_rfl) (by kernel_rfl) (by kernel_rfl) (fun _ _ _ h => h) (Or.inr ⟨by rfl, rfl⟩) TS ?_
  try simp only [Act.put, sa1, sa2, sa3]
  refine wpAnyN_at (i := 9) (v := undef) (some 13) rfl rfl (by kernel_rfl) (by kernel_rfl) (by kernel_rfl) (by kernel_rfl) (fun _ _ _ h => h) (Or.inr ⟨by rfl, rfl⟩) TS ?_
  try simp only [Act.put, sa1, sa2, sa3]
  refine wpAnyN_at (i := 10) (v := undef) (some 14) rfl rfl (by kernel_rfl) (by kernel_rfl) (by kernel_rfl) (by kernel_rfl) (fun _ _ _ h => h) (Or.inr ⟨by rfl, rfl⟩) TS ?_
  try simp only [Act.put, sa1, sa2, sa3]
  refine wpAnyN_at (i := 11) (v := undef) (some 15) rfl rfl (by kernel_rfl) (by kernel_rfl) (by kernel_rfl) (by kernel_rfl) (fun _ _ _ h => h) (Or.inr ⟨by rfl, rfl⟩) TS ?_
  try simp only [Act.put, sa1, sa2, sa3]
  refine wpAnyN_at (i := 12) (v := undef) (some 16) rfl rfl (by kernel_rfl) (by kernel_rfl) (by kernel_rfl) (by kernel_rfl) (fun _ _ _ h => h) (Or.inr ⟨by rfl, rfl⟩) TS ?_
  try simp only [Act.put, sa1, sa2, sa3]
  refine wpAnyN_at (i := 13) (v := undef) (some 17) rfl rfl (by kernel_rfl) (by kernel_rfl) (by kernel_rfl) (by kernel_rfl) (fun _ _ _ h => h) (Or.inr ⟨by rfl, rfl⟩) TS ?_
  try simp only [Act.put, sa1, sa2, sa3]
  refine wpAnyN_at (i := 14) (v := undef) (some 18) rfl rfl (by kernel_rfl) (by kernel_rfl) (by kernel_rfl) (by kernel_rfl) (fun _ _ _ h => h) (Or.inr ⟨by rfl, rfl⟩) TS ?_
  try simp only [Act.put, sa1, sa2, sa3]
  refine wpAnyN_at (i := 15) (v := undef) (some 19) rfl rfl (by kernel_rfl) (by kernel_rfl) (by kernel_rfl) (by kernel_rfl) (fun _ _ _ h => h) (Or.inr ⟨by rfl, rfl⟩) TS ?_
  try simp only [Act.put, sa1, sa2, sa3]
  refine wpAnyN_at (i := 16) (v := undef) (some 20) rfl rfl (by kernel_rfl) (by kernel_rfl) (by kernel_rfl) (by kernel_rfl) (fun _ _ _ h => h) (Or.inr ⟨by rfl, rfl⟩) TS ?_
  try simp only [Act.put, sa1, sa2, sa3]
  refine wpAnyN_at (i := 17) (v := .bool false) (some 21) rfl rfl (by kernel_rfl) (by kernel_rfl) (by kernel_rfl) (by kernel_rfl) (fun _ _ _ h => h) (Or.inl ⟨by rfl, ?_⟩) TS ?_
  · intro w hSw
    obtain ⟨q0, q1, q4, qu⟩ := hSw
    go_simp
    try (intro h; exfalso; omega)
  try simp only [Act.put, sa1, sa2, sa3]
  refine wpAnyN_at (i := 18) (v := .bool false) (some 22) rfl rfl (by kernel_rfl) (by kernel_rfl) (by kernel_rfl) (by kernel_rfl) (fun _ _ _ h => h) (Or.inl ⟨by rfl, ?_⟩) TS ?_
  · intro w hSw
    obtain ⟨q0, q1, q4, qu⟩ := hSw
    go_simp
    try (intro h; exfalso; omega)
  try simp only [Act.put, sa1, sa2, sa3]
  refine wpAnyN_at (i := 19) (v := undef) (some 23) rfl rfl (by kernel_rfl) (by kernel_rfl) (by kernel_rfl) (by kernel_rfl) (fun _ _ _ h => h) (Or.inr ⟨by rfl, rfl⟩) TS ?_
  try simp only [Act.put, sa1, sa2, sa3]
  refine wpAnyN_at (i := 20) (v := undef) (some 24) rfl rfl (by kernel_rfl) (by kernel_rfl) (by kernel_rfl) (by kernel_rfl) (fun _ _ _ h => h) (Or.inr ⟨by rfl, rfl⟩) TS ?_
  try simp only [Act.put, sa1, sa2, sa3]
  refine wpAnyN_at (i := 21) (v := undef) (some 25) rfl rfl (by kernel_rfl) (by kernel_rfl) (by kernel_rfl) (by kernel_rfl) (fun _ _ _ h => h) (Or.inr ⟨by rfl, rfl⟩) TS ?_
  try simp only [Act.put, sa1, sa2, sa3]
  refine wpAnyN_at (i := 22) (v := undef) (some 26) rfl rfl (by kernel_rfl) (by kernel_rfl) (by kernel_rfl) (by kernel_rfl) (fun _ _ _ h => h) (Or.inr ⟨by rfl, rfl⟩) TS ?_
  try simp only [Act.put, sa1, sa2, sa3]
  refine wpAnyN_at (i := 23) (v := undef) (some 27) rfl rfl (by kernel_rfl) (by kernel_rfl) (by kernel_rfl) (by kernel_rfl) (fun _ _ _ h => h) (Or.inr ⟨by rfl, rfl⟩) TS ?_
  try simp only [Act.put, sa1, sa2, sa3]
  refine wpAnyN_at (i := 24) (v := undef) (some 28) rfl rfl (by kernel_rfl) (by kernel_rfl) (by kernel_rfl) (by kernel_rfl) (fun _ _ _ h => h) (Or.inr ⟨by rfl, rfl⟩) TS ?_
  try simp only [Act.put, sa1, sa2, sa3]
  refine wpAnyN_at (i := 25) (v := undef) (some 29) rfl rfl (by kernel_rfl) (by kernel_rfl) (by kernel_rfl) (by kernel_rfl) (fun _ _ _ h => h) (Or.inr ⟨by rfl, rfl⟩) TS ?_
  try simp only [Act.put, sa1, sa2, sa3]
  refine wpAnyN_at (i := 26) (v := undef) (some 30) rfl rfl (by kernel_rfl) (by kernel_rfl) (by kernel_rfl) (by kernel_rfl) (fun _ _ _ h => h) (Or.inr ⟨by rfl, rfl⟩) TS ?_
  try simp only [Act.put, sa1, sa2, sa3]
  refine wpAnyN_at (i := 27) (v := undef) (some 31) rfl rfl (by kernel_rfl) (by kernel_rfl) (by kernel_rfl) (by kernel_rfl) (fun _ _ _ h => h) (Or.inr ⟨by rfl, rfl⟩) TS ?_
  try simp only [Act.put, sa1, sa2, sa3]
  refine wpAnyN_at (i := 28) (v := undef) (some 32) rfl rfl (by kernel_rfl) (by kernel_rfl) (by kernel_rfl) (by kernel_rfl) (fun _ _ _ h => h) (Or.inr ⟨by rfl, rfl⟩) TS ?_
  try simp only [Act.put, sa1, sa2, sa3]
  refine wpAnyN_at (i := 29) (v := undef) (some 33) rfl rfl (by kernel_rfl) (by kernel_rfl) (by kernel_rfl) (by kernel_rfl) (fun _ _ _ h => h) (Or.inr ⟨by rfl, rfl⟩) TS ?_
  try simp only [Act.put, sa1, sa2, sa3]
  refine wpAnyN_at (i := 30) (v := undef) (some 34) rfl rfl (by kernel_rfl) (by kernel_rfl) (by kernel_rfl) (by kernel_rfl) (fun _ _ _ h => h) (Or.inr ⟨by rfl, rfl⟩) TS ?_
  try simp only [Act.put, sa1, sa2, sa3]
  refine wpAnyN_at (i := 31) (v := .bool false) (some 35) rfl rfl (by kernel_rfl) (by kernel_rfl) (by kernel_rfl) (by kernel_rfl) (fun _ _ _ h => h) (Or.inl ⟨by rfl, ?_⟩) TS ?_
  · intro w hSw
    obtain ⟨q0, q1, q4, qu⟩ := hSw
    go_simp
    try (intro h; exfalso; omega)
  try simp only [Act.put, sa1, sa2, sa3]
  refine wpAnyL_one (i := 32) (by kernel_rfl) rfl (fun K hK => ?_)
  go_simp
  refine hK.out _ _ (fun _ => TS) ?_
  clear hK K
  try simp only [Act.put, sa1, sa2, sa3]
  refine wpAnyL_done (by kernel_rfl) ?_ _
  refine NoPanic.normal ?_
  go_wp2_with fail
  go_ret
  exact ⟨rfl, G0⟩
 | true =>
  cases hq : ((q : Int) == 0) with
  | false =>
   go_enter Tryz.func74, Tryz.ntmps74
   go_wp2_with fail
   refine wp_region_L (L := 100) (T := SU g o k s la l.length lc u mb) (by kernel_rfl) ?_
   refine wpAnyN_at (i := 0) (v := ptr g o) (some 4) rfl rfl (by kernel_rfl) (by kernel_rfl) (by kernel_rfl) (by kernel_rfl) (fun _ _ _ h => h) (Or.inl ⟨by rfl, ?_⟩) TS ?_
   · intro w hSw
     obtain ⟨q0, q1, q4, qu⟩ := hSw
     go_simp
     try (intro h; exfalso; omega)
   try simp only [Act.put, sa1, sa2, sa3]
   refine wpAnyN_at (i := 1) (v := ptr g o) (some 5) rfl rfl (by kernel_rfl) (by kernel_rfl) (by kernel_rfl) (by kernel_rfl) (fun _ _ _ h => h) (Or.inl ⟨by rfl, ?_⟩) TS ?_
   · intro w hSw
     obtain ⟨q0, q1, q4, qu⟩ := hSw
     go_simp
     try (intro h; exfalso; omega)
   try simp only [Act.put, sa1, sa2, sa3]
   refine wpAnyN_at (i := 2) (v := ptr g o) (some 6) rfl rfl (by kernel_rfl) (by kernel_rfl) (by kernel_rfl) (by kernel_rfl) (fun _ _ _ h => h) (Or.inl ⟨by rfl, ?_⟩) TS ?_
   · intro w hSw
     obtain ⟨q0, q1, q4, qu⟩ := hSw
     go_simp
     try (intro h; exfalso; omega)
   try simp only [Act.put, sa1, sa2, sa3]
   refine wpAnyN_at (i := 3) (v := .int .i64 k) (some 7) rfl rfl (by kernel_rfl) (by kernel_rfl) (by kernel_rfl) (by kernel_rfl) (fun _ _ _ h => h) (Or.inl ⟨by rfl, ?_⟩) TS ?_
   · intro w hSw
     obtain ⟨q0, q1, q4, qu⟩ := hSw
     go_simp
     try (intro h; exfalso; omega)
   try simp only [Act.put, sa1, sa2, sa3]
   refine wpAnyN_at (i := 4) (v := .bool true) (some 8) rfl rfl (by kernel_rfl) (by kernel_rfl) (by kernel_rfl) (by kernel_rfl) (fun _ _ _ h => h) (Or.inl ⟨by rfl, ?_⟩) TS ?_
   · intro w hSw
     obtain ⟨q0, q1, q4, qu⟩ := hSw
     go_simp
     try (intro h; exfalso; omega)
   try simp only [Act.put, sa1, sa2, sa3]
   refine wpAnyN_at (i := 5) (v := .bool true) (some 9) rfl rfl (by kernel_rfl) (by kernel_rfl) (by kernel_rfl) (by kernel_rfl) (fun _ _ _ h => h) (Or.inl ⟨by rfl, ?_⟩) TS ?_
   · intro w hSw
     obtain ⟨q0, q1, q4, qu⟩ := hSw
     go_simp
     try (intro h; exfalso; omega)
   try simp only [Act.put, sa1, sa2, sa3]
   refine wpAnyN_at (i := 6) (v := ptr g o) (some 10) rfl rfl (by kernel_rfl) (by kernel_rfl) (by kernel_rfl) (by kernel_rfl) (fun _ _ _ h => h) (Or.inl ⟨by rfl, ?_⟩) TS ?_
   · intro w hSw
     obtain ⟨q0, q1, q4, qu⟩ := hSw
     go_simp
     try (intro h; exfalso; omega)
   try simp only [Act.put, sa1, sa2, sa3]
   refine wpAnyN_at (i := 7) (v := ptr g o) (some 11) rfl rfl (by kernel_rfl) (by kernel_rfl) (by kernel_rfl) (by kernel_rfl) (fun _ _ _ h => h) (Or.inl ⟨by rfl, ?_⟩) TS ?_
   · intro w hSw
     obtain ⟨q0, q1, q4, qu⟩ := hSw
     go_simp
     try (intro h; exfalso; omega)
   try simp only [Act.put, sa1, sa2, sa3]
   refine wpAnyN_at (i := 8) (v := ptr g (o + 1)) (some 12) rfl rfl (by kernel_rfl) (by kernel_rfl) (by kernel_rfl) (by kernel_rfl) (fun _ _ _ h => h) (Or.inl ⟨by rfl, ?_⟩) TS ?_
   · intro w hSw
     obtain ⟨q0, q1, q4, qu⟩ := hSw
     go_simp
     try (intro h; exfalso; omega)
   try simp only [Act.put, sa1, sa2, sa3]
   refine wpAnyN_at (i := 9) (v := .string s) (some 13) rfl rfl (by kernel_rfl) (by kernel_rfl) (by kernel_rfl) (by kernel_rfl) (fun _ _ _ h => h) (Or.inl ⟨by rfl, ?_⟩) TS ?_
   · intro w hSw
     obtain ⟨q0, q1, q4, qu⟩ := hSw
     go_simp
     try (intro h; exfalso; omega)
   try simp only [Act.put, sa1, sa2, sa3]
   refine wpAnyN_at (i := 10) (v := ptr g o) (some 14) rfl rfl (by kernel_rfl) (by kernel_rfl) (by kernel_rfl) (by kernel_rfl) (fun _ _ _ h => h) (Or.inl ⟨by rfl, ?_⟩) TS ?_
   · intro w hSw
     obtain ⟨q0, q1, q4, qu⟩ := hSw
     go_simp
     try (intro h; exfalso; omega)
   try simp only [Act.put, sa1, sa2, sa3]
   refine wpAnyN_at (i := 11) (v := ptr g o) (some 15) rfl rfl (by kernel_rfl) (by kernel_rfl) (by kernel_rfl) (by kernel_rfl) (fun _ _ _ h => h) (Or.inl ⟨by rfl, ?_⟩) TS ?_
   · intro w hSw
     obtain ⟨q0, q1, q4, qu⟩ := hSw
     go_simp
     try (intro h; exfalso; omega)
   try simp only [Act.put, sa1, sa2, sa3]
   refine wpAnyN_at (i := 12) (v := ptr g (o + 4)) (some 16) rfl rfl (by kernel_rfl) (by kernel_rfl) (by kernel_rfl) (by kernel_rfl) (fun _ _ _ h => h) (Or.inl ⟨by rfl, ?_⟩) TS ?_
   · intro w hSw
     obtain ⟨q0, q1, q4, qu⟩ := hSw
     go_simp
     try (intro h; exfalso; omega)
   try simp only [Act.put, sa1, sa2, sa3]
   refine wpAnyN_at (i := 13) (v := .slice la l.length lc) (some 17) rfl rfl (by kernel_rfl) (by kernel_rfl) (by kernel_rfl) (by kernel_rfl) (fun _ _ _ h => h) (Or.inl ⟨by rfl, ?_⟩) TS ?_
   · intro w hSw
     obtain ⟨q0, q1, q4, qu⟩ := hSw
     go_simp
     try (intro h; exfalso; omega)
   try simp only [Act.put, sa1, sa2, sa3]
   refine wpAnyN_at (i := 14) (v := .int .i64 (l.length : Int)) (some 18) rfl rfl (by kernel_rfl) (by kernel_rfl) (by kernel_rfl) (by kernel_rfl) (fun _ _ _ h => h) (Or.inl ⟨by rfl, ?_⟩) TS ?_
   · intro w hSw
     obtain ⟨q0, q1, q4, qu⟩ := hSw
     go_simp
     try (intro h; exfalso; omega)
   try simp only [Act.put, sa1, sa2, sa3]
   refine wpAnyL_one (i := 15) (by kernel_rfl) rfl (fun K hK => ?_)
   go_simp
   refine (hbi.out _ G0).mono ?_
   rintro e w2 ⟨rfl, g2⟩
   have G2 : Gr (fun _ => False) W w2 := G0.trans g2
   have TS : SU g o k s la l.length lc u mb w2 := SU.gr S0.out G2
   refine hK.out _ _ (fun _ => TS) ?_
   clear hK K
   try simp only [Act.put, sa1, sa2, sa3]
   refine wpAnyN_at (i := 16) (v := .bool false) (some 20) rfl rfl (by kernel_rfl) (by kernel_rfl) (by kernel_rfl) (by kernel_rfl) (fun _ _ _ h => h) (Or.inl ⟨by rfl, ?_⟩) TS ?_
   · intro w hSw
     obtain ⟨q0, q1, q4, qu⟩ := hSw
     go_simp
     try (intro h; exfalso; omega)
   try simp only [Act.put, sa1, sa2, sa3]
   refine wpAnyN_at (i := 17) (v := .bool false) (some 21) rfl rfl (by kernel_rfl) (by kernel_rfl) (by kernel_rfl) (by kernel_rfl) (fun _ _ _ h => h) (Or.inl ⟨by rfl, ?_⟩) TS ?_
   · intro w hSw
     obtain ⟨q0, q1, q4, qu⟩ := hSw
     go_simp
     try (intro h; exfalso; omega)
   try simp only [Act.put, sa1, sa2, sa3]
   refine wpAnyN_at (i := 18) (v := .bool false) (some 22) rfl rfl (by kernel_rfl) (by kernel_rfl) (by kernel_rfl) (by kernel_rfl) (fun _ _ _ h => h) (Or.inl ⟨by rfl, ?_⟩) TS ?_
   · intro w hSw
     obtain ⟨q0, q1, q4, qu⟩ := hSw
     go_simp
     try (intro h; exfalso; omega)
   try simp only [Act.put, sa1, sa2, sa3]
   refine wpAnyN_at (i := 19) (v := undef) (some 23) rfl rfl (by kernel_rfl) (by kernel_rfl) (by kernel_rfl) (by kernel_rfl) (fun _ _ _ h => h) (Or.inr ⟨by rfl, rfl⟩) TS ?_
   try simp only [Act.put, sa1, sa2, sa3]
   refine wpAnyN_at (i := 20) (v := undef) (some 24) rfl rfl (by kernel_rfl) (by kernel_rfl) (by kernel_rfl) (by kernel_rfl) (fun _ _ _ h => h) (Or.inr ⟨by rfl, rfl⟩) TS ?_
   try simp only [Act.put, sa1, sa2, sa3]
   refine wpAnyN_at (i := 21) (v := undef) (some 25) rfl rfl (by kernel_rfl) (by kernel_rfl) (by kernel_rfl) (by kernel_rfl) (fun _ _ _ h => h) (Or.inr ⟨by rfl, rfl⟩) TS ?_
   try simp only [Act.put, sa1, sa2, sa3]
   refine wpAnyN_at (i := 22) (v := undef) (some 26) rfl rfl (by kernel_rfl) (by kernel_rfl) (by kernel_rfl) (by kernel_rfl) (fun _ _ _ h => h) (Or.inr ⟨by rfl, rfl⟩) TS ?_
   try simp only [Act.put, sa1, sa2, sa3]
   refine wpAnyN_at (i := 23) (v := undef) (some 27) rfl rfl (by kernel_rfl) (by kernel_rfl) (by kernel_rfl) (by kernel_rfl) (fun _ _ _ h => h) (Or.inr ⟨by rfl, rfl⟩) TS ?_
   try simp only [Act.put, sa1, sa2, sa3]
   refine wpAnyN_at (i := 24) (v := undef) (some 28) rfl rfl (by kernel_rfl) (by kernel_rfl) (by kernel_rfl) (by kernel_rfl) (fun _ _ _ h => h) (Or.inr ⟨by rfl, rfl⟩) TS ?_
   try simp only [Act.put, sa1, sa2, sa3]
   refine wpAnyN_at (i := 25) (v := undef) (some 29) rfl rfl (by kernel_rfl) (by kernel_rfl) (by kernel_rfl) (by kernel_rfl) (fun _ _ _ h => h) (Or.inr ⟨by rfl, rfl⟩) TS ?_
   try simp only [Act.put, sa1, sa2, sa3]
   refine wpAnyN_at (i := 26) (v := undef) (some 30) rfl rfl (by kernel_rfl) (by kernel_rfl) (by kernel_rfl) (by kernel_rfl) (fun _ _ _ h => h) (Or.inr ⟨by rfl, rfl⟩) TS ?_
   try simp only [Act.put, sa1, sa2, sa3]
   refine wpAnyN_at (i := 27) (v := undef) (some 31) rfl rfl (by kernel_rfl) (by kernel_rfl) (by kernel_rfl) (by kernel_rfl) (fun _ _ _ h => h) (Or.inr ⟨by rfl, rfl⟩) TS ?_
   try simp only [Act.put, sa1, sa2, sa3]
   refine wpAnyN_at (i := 28) (v := undef) (some 32) rfl rfl (by kernel_rfl) (by kernel_rfl) (by kernel_rfl) (by kernel_rfl) (fun _ _ _ h => h) (Or.inr ⟨by rfl, rfl⟩) TS ?_
   try simp only [Act.put, sa1, sa2, sa3]
   refine wpAnyN_at (i := 29) (v := undef) (some 33) rfl rfl (by kernel_rfl) (by kernel_rfl) (by kernel_rfl) (by kernel_rfl) (fun _ _ _ h => h) (Or.inr ⟨by rfl, rfl⟩) TS ?_
   try simp only [Act.put, sa1, sa2, sa3]
   refine wpAnyN_at (i := 30) (v := undef) (some 34) rfl rfl (by kernel_rfl) (by kernel_rfl) (by kernel_rfl) (by kernel_rfl) (fun _ _ _ h => h) (Or.inr ⟨by rfl, rfl⟩) TS ?_
   try simp only [Act.put, sa1, sa2, sa3]
   refine wpAnyN_at (i := 31) (v := .bool false) (some 35) rfl rfl (by kernel_rfl) (by kernel_rfl) (by kernel_rfl) (by kernel_rfl) (fun _ _ _ h => h) (Or.inl ⟨by rfl, ?_⟩) TS ?_
   · intro w hSw
     obtain ⟨q0, q1, q4, qu⟩ := hSw
     go_simp
     try (intro h; exfalso; omega)
   try simp only [Act.put, sa1, sa2, sa3]
   refine wpAnyL_one (i := 32) (by kernel_rfl) rfl (fun K hK => ?_)
   go_simp
   refine hK.out _ _ (fun _ => TS) ?_
   clear hK K
   try simp only [Act.put, sa1, sa2, sa3]
   refine wpAnyL_done (by kernel_rfl) ?_ _
   refine NoPanic.normal ?_
   go_wp2_with fail
   go_ret
   exact ⟨rfl, G2⟩
  | true =>
   go_enter Tryz.func74, Tryz.ntmps74
   go_wp2_with fail
   refine wp_region_L (L := 100) (T := SU g o k s la l.length lc u mb) (by kernel_rfl) ?_
   refine wpAnyN_at (i := 0) (v := ptr g o) (some 4) rfl rfl (by kernel_rfl) (by kernel_rfl) (by kernel_rfl) (by kernel_rfl) (fun _ _ _ h => h) (Or.inl ⟨by rfl, ?_⟩) TS ?_
   · intro w hSw
     obtain ⟨q0, q1, q4, qu⟩ := hSw
     go_simp
     try (intro h; exfalso; omega)
   try simp only [Act.put, sa1, sa2, sa3]
   refine wpAnyN_at (i := 1) (v := ptr g o) (some 5) rfl rfl (by kernel_rfl) (by kernel_rfl) (by kernel_rfl) (by kernel_rfl) (fun _ _ _ h => h) (Or.inl ⟨by rfl, ?_⟩) TS ?_
   · intro w hSw
     obtain ⟨q0, q1, q4, qu⟩ := hSw
     go_simp
     try (intro h; exfalso; omega)
   try simp only [Act.put, sa1, sa2, sa3]
   refine wpAnyN_at (i := 2) (v := ptr g o) (some 6) rfl rfl (by kernel_rfl) (by kernel_rfl) (by kernel_rfl) (by kernel_rfl) (fun _ _ _ h => h) (Or.inl ⟨by rfl, ?_⟩) TS ?_
   · intro w hSw
     obtain ⟨q0, q1, q4, qu⟩ := hSw
     go_simp
     try (intro h; exfalso; omega)
   try simp only [Act.put, sa1, sa2, sa3]
   refine wpAnyN_at (i := 3) (v := .int .i64 k) (some 7) rfl rfl (by kernel_rfl) (by kernel_rfl) (by kernel_rfl) (by kernel_rfl) (fun _ _ _ h => h) (Or.inl ⟨by rfl, ?_⟩) TS ?_
   · intro w hSw
     obtain ⟨q0, q1, q4, qu⟩ := hSw
     go_simp
     try (intro h; exfalso; omega)
   try simp only [Act.put, sa1, sa2, sa3]
   refine wpAnyN_at (i := 4) (v := .bool true) (some 8) rfl rfl (by kernel_rfl) (by kernel_rfl) (by kernel_rfl) (by kernel_rfl) (fun _ _ _ h => h) (Or.inl ⟨by rfl, ?_⟩) TS ?_
   · intro w hSw
     obtain ⟨q0, q1, q4, qu⟩ := hSw
     go_simp
     try (intro h; exfalso; omega)
   try simp only [Act.put, sa1, sa2, sa3]
   refine wpAnyN_at (i := 5) (v := .bool true) (some 9) rfl rfl (by kernel_rfl) (by kernel_rfl) (by kernel_rfl) (by kernel_rfl) (fun _ _ _ h => h) (Or.inl ⟨by rfl, ?_⟩) TS ?_
   · intro w hSw
     obtain ⟨q0, q1, q4, qu⟩ := hSw
     go_simp
     try (intro h; exfalso; omega)
   try simp only [Act.put, sa1, sa2, sa3]
   refine wpAnyN_at (i := 6) (v := ptr g o) (some 10) rfl rfl (by kernel_rfl) (by kernel_rfl) (by kernel_rfl) (by kernel_rfl) (fun _ _ _ h => h) (Or.inl ⟨by rfl, ?_⟩) TS ?_
   · intro w hSw
     obtain ⟨q0, q1, q4, qu⟩ := hSw
     go_simp
     try (intro h; exfalso; omega)
   try simp only [Act.put, sa1, sa2, sa3]
   refine wpAnyN_at (i := 7) (v := ptr g o) (some 11) rfl rfl (by kernel_rfl) (by kernel_rfl) (by kernel_rfl) (by kernel_rfl) (fun _ _ _ h => h) (Or.inl ⟨by rfl, ?_⟩) TS ?_
   · intro w hSw
     obtain ⟨q0, q1, q4, qu⟩ := hSw
     go_simp
     try (intro h; exfalso; omega)
   try simp only [Act.put, sa1, sa2, sa3]
   refine wpAnyN_at (i := 8) (v := ptr g (o + 1)) (some 12) rfl rfl (by kernel_rfl) (by kernel_rfl) (by kernel_rfl) (by kernel_rfl) (fun _ _ _ h => h) (Or.inl ⟨by rfl, ?_⟩) TS ?_
   · intro w hSw
     obtain ⟨q0, q1, q4, qu⟩ := hSw
     go_simp
     try (intro h; exfalso; omega)
   try simp only [Act.put, sa1, sa2, sa3]
   refine wpAnyN_at (i := 9) (v := .string s) (some 13) rfl rfl (by kernel_rfl) (by kernel_rfl) (by kernel_rfl) (by kernel_rfl) (fun _ _ _ h => h) (Or.inl ⟨by rfl, ?_⟩) TS ?_
   · intro w hSw
     obtain ⟨q0, q1, q4, qu⟩ := hSw
     go_simp
     try (intro h; exfalso; omega)
   try simp only [Act.put, sa1, sa2, sa3]
   refine wpAnyN_at (i := 10) (v := ptr g o) (some 14) rfl rfl (by kernel_rfl) (by kernel_rfl) (by kernel_rfl) (by kernel_rfl) (fun _ _ _ h => h) (Or.inl ⟨by rfl, ?_⟩) TS ?_
   · intro w hSw
     obtain ⟨q0, q1, q4, qu⟩ := hSw
     go_simp
     try (intro h; exfalso; omega)
   try simp only [Act.put, sa1, sa2, sa3]
   refine wpAnyN_at (i := 11) (v := ptr g o) (some 15) rfl rfl (by kernel_rfl) (by kernel_rfl) (by kernel_rfl) (by kernel_rfl) (fun _ _ _ h => h) (Or.inl ⟨by rfl, ?_⟩) TS ?_
   · intro w hSw
     obtain ⟨q0, q1, q4, qu⟩ := hSw
     go_simp
     try (intro h; exfalso; omega)
   try simp only [Act.put, sa1, sa2, sa3]
   refine wpAnyN_at (i := 12) (v := ptr g (o + 4)) (some 16) rfl rfl (by kernel_rfl) (by kernel_rfl) (by kernel_rfl) (by kernel_rfl) (fun _ _ _ h => h) (Or.inl ⟨by rfl, ?_⟩) TS ?_
   · intro w hSw
     obtain ⟨q0, q1, q4, qu⟩ := hSw
     go_simp
     try (intro h; exfalso; omega)
   try simp only [Act.put, sa1, sa2, sa3]
   refine wpAnyN_at (i := 13) (v := .slice la l.length lc) (some 17) rfl rfl (by kernel_rfl) (by kernel_rfl) (by kernel_rfl) (by kernel_rfl) (fun _ _ _ h => h) (Or.inl ⟨by rfl, ?_⟩) TS ?_
   · intro w hSw
     obtain ⟨q0, q1, q4, qu⟩ := hSw
     go_simp
     try (intro h; exfalso; omega)
   try simp only [Act.put, sa1, sa2, sa3]
   refine wpAnyN_at (i := 14) (v := .int .i64 (l.length : Int)) (some 18) rfl rfl (by kernel_rfl) (by kernel_rfl) (by kernel_rfl) (by kernel_rfl) (fun _ _ _ h => h) (Or.inl ⟨by rfl, ?_⟩) TS ?_
   · intro w hSw
     obtain ⟨q0, q1, q4, qu⟩ := hSw
     go_simp
     try (intro h; exfalso; omega)
   try simp only [Act.put, sa1, sa2, sa3]
   refine wpAnyL_one (i := 15) (by kernel_rfl) rfl (fun K hK => ?_)
   go_simp
   refine (hbi.out _ G0).mono ?_
   rintro e w2 ⟨rfl, g2⟩
   have G2 : Gr (fun _ => False) W w2 := G0.trans g2
   have TS : SU g o k s la l.length lc u mb w2 := SU.gr S0.out G2
   refine hK.out _ _ (fun _ => TS) ?_
   clear hK K
   try simp only [Act.put, sa1, sa2, sa3]
   refine wpAnyN_at (i := 16) (v := .bool true) (some 20) rfl rfl (by kernel_rfl) (by kernel_rfl) (by kernel_rfl) (by kernel_rfl) (fun _ _ _ h => h) (Or.inl ⟨by rfl, ?_⟩) TS ?_
   · intro w hSw
     obtain ⟨q0, q1, q4, qu⟩ := hSw
     go_simp
     try (intro h; exfalso; omega)
   try simp only [Act.put, sa1, sa2, sa3]
   refine wpAnyN_at (i := 17) (v := .bool true) (some 21) rfl rfl (by kernel_rfl) (by kernel_rfl) (by kernel_rfl) (by kernel_rfl) (fun _ _ _ h => h) (Or.inl ⟨by rfl, ?_⟩) TS ?_
   · intro w hSw
     obtain ⟨q0, q1, q4, qu⟩ := hSw
     go_simp
     try (intro h; exfalso; omega)
   try simp only [Act.put, sa1, sa2, sa3]
   refine wpAnyN_at (i := 18) (v := .bool true) (some 22) rfl rfl (by kernel_rfl) (by kernel_rfl) (by kernel_rfl) (by kernel_rfl) (fun _ _ _ h => h) (Or.inl ⟨by rfl, ?_⟩) TS ?_
   · intro w hSw
     obtain ⟨q0, q1, q4, qu⟩ := hSw
     go_simp
     try (intro h; exfalso; omega)
   try simp only [Act.put, sa1, sa2, sa3]
   refine wpAnyN_at (i := 19) (v := .map (some mb)) (some 23) rfl rfl (by kernel_rfl) (by kernel_rfl) (by kernel_rfl) (by kernel_rfl) (fun _ _ _ h => h) (Or.inl ⟨by rfl, ?_⟩) TS ?_
   · intro w hSw
     obtain ⟨q0, q1, q4, qu⟩ := hSw
     go_simp
     try (intro h; exfalso; omega)
   try simp only [Act.put, sa1, sa2, sa3]
   refine wpAnyN_at (i := 20) (v := ptr g o) (some 24) rfl rfl (by kernel_rfl) (by kernel_rfl) (by kernel_rfl) (by kernel_rfl) (fun _ _ _ h => h) (Or.inl ⟨by rfl, ?_⟩) TS ?_
   · intro w hSw
     obtain ⟨q0, q1, q4, qu⟩ := hSw
     go_simp
     try (intro h; exfalso; omega)
   try simp only [Act.put, sa1, sa2, sa3]
   refine wpAnyN_at (i := 21) (v := ptr g o) (some 25) rfl rfl (by kernel_rfl) (by kernel_rfl) (by kernel_rfl) (by kernel_rfl) (fun _ _ _ h => h) (Or.inl ⟨by rfl, ?_⟩) TS ?_
   · intro w hSw
     obtain ⟨q0, q1, q4, qu⟩ := hSw
     go_simp
     try (intro h; exfalso; omega)
   try simp only [Act.put, sa1, sa2, sa3]
   refine wpAnyN_at (i := 22) (v := ptr g (o + 1)) (some 26) rfl rfl (by kernel_rfl) (by kernel_rfl) (by kernel_rfl) (by kernel_rfl) (fun _ _ _ h => h) (Or.inl ⟨by rfl, ?_⟩) TS ?_
   · intro w hSw
     obtain ⟨q0, q1, q4, qu⟩ := hSw
     go_simp
     try (intro h; exfalso; omega)
   try simp only [Act.put, sa1, sa2, sa3]
   refine wpAnyN_at (i := 23) (v := .string s) (some 27) rfl rfl (by kernel_rfl) (by kernel_rfl) (by kernel_rfl) (by kernel_rfl) (fun _ _ _ h => h) (Or.inl ⟨by rfl, ?_⟩) TS ?_
   · intro w hSw
     obtain ⟨q0, q1, q4, qu⟩ := hSw
     go_simp
     try (intro h; exfalso; omega)
   try simp only [Act.put, sa1, sa2, sa3]
   refine wpAnyN_at (i := 24) (v := ptr g o) (some 28) rfl rfl (by kernel_rfl) (by kernel_rfl) (by kernel_rfl) (by kernel_rfl) (fun _ _ _ h => h) (Or.inl ⟨by rfl, ?_⟩) TS ?_
   · intro w hSw
     obtain ⟨q0, q1, q4, qu⟩ := hSw
     go_simp
     try (intro h; exfalso; omega)
   try simp only [Act.put, sa1, sa2, sa3]
   refine wpAnyN_at (i := 25) (v := ptr g o) (some 29) rfl rfl (by kernel_rfl) (by kernel_rfl) (by kernel_rfl) (by kernel_rfl) (fun _ _ _ h => h) (Or.inl ⟨by rfl, ?_⟩) TS ?_
   · intro w hSw
     obtain ⟨q0, q1, q4, qu⟩ := hSw
     go_simp
     try (intro h; exfalso; omega)
   try simp only [Act.put, sa1, sa2, sa3]
   refine wpAnyN_at (i := 26) (v := ptr g (o + 4)) (some 30) rfl rfl (by kernel_rfl) (by kernel_rfl) (by kernel_rfl) (by kernel_rfl) (fun _ _ _ h => h) (Or.inl ⟨by rfl, ?_⟩) TS ?_
   · intro w hSw
     obtain ⟨q0, q1, q4, qu⟩ := hSw
     go_simp
     try (intro h; exfalso; omega)
   try simp only [Act.put, sa1, sa2, sa3]
   refine wpAnyN_at (i := 27) (v := .slice la l.length lc) (some 31) rfl rfl (by kernel_rfl) (by kernel_rfl) (by kernel_rfl) (by kernel_rfl) (fun _ _ _ h => h) (Or.inl ⟨by rfl, ?_⟩) TS ?_
   · intro w hSw
     obtain ⟨q0, q1, q4, qu⟩ := hSw
     go_simp
     try (intro h; exfalso; omega)
   try simp only [Act.put, sa1, sa2, sa3]
   refine wpAnyN_at (i := 28) (v := .int .i64 (l.length : Int)) (some 32) rfl rfl (by kernel_rfl) (by kernel_rfl) (by kernel_rfl) (by kernel_rfl) (fun _ _ _ h => h) (Or.inl ⟨by rfl, ?_⟩) TS ?_
   · intro w hSw
     obtain ⟨q0, q1, q4, qu⟩ := hSw
     go_simp
     try (intro h; exfalso; omega)
   try simp only [Act.put, sa1, sa2, sa3]
   refine wpAnyL_one (i := 29) (by kernel_rfl) rfl (fun K hK => ?_)
   go_simp
   refine (hhas.out _ G2).mono ?_
   rintro e w3 ⟨rfl, g3⟩
   have G3 : Gr (fun _ => False) W w3 := G2.trans g3
   have TS : SU g o k s la l.length lc u mb w3 := SU.gr S0.out G3
   refine hK.out _ _ (fun _ => TS) ?_
   clear hK K
   try simp only [Act.put, sa1, sa2, sa3]
   refine wpAnyN_at (i := 30) (v := .bool (!r)) (some 34) rfl rfl (by kernel_rfl) (by kernel_rfl) (by kernel_rfl) (by kernel_rfl) (fun _ _ _ h => h) (Or.inl ⟨by rfl, ?_⟩) TS ?_
   · intro w hSw
     obtain ⟨q0, q1, q4, qu⟩ := hSw
     go_simp
     try (intro h; exfalso; omega)
   try simp only [Act.put, sa1, sa2, sa3]
   refine wpAnyN_at (i := 31) (v := .bool (!r)) (some 35) rfl rfl (by kernel_rfl) (by kernel_rfl) (by kernel_rfl) (by kernel_rfl) (fun _ _ _ h => h) (Or.inl ⟨by rfl, ?_⟩) TS ?_
   · intro w hSw
     obtain ⟨q0, q1, q4, qu⟩ := hSw
     go_simp
     try (intro h; exfalso; omega)
   try simp only [Act.put, sa1, sa2, sa3]
   refine wpAnyL_one (i := 32) (by kernel_rfl) rfl (fun K hK => ?_)
   go_simp
   refine hK.out _ _ (fun _ => TS) ?_
   clear hK K
   try simp only [Act.put, sa1, sa2, sa3]
   refine wpAnyL_done (by kernel_rfl) ?_ _
   refine NoPanic.normal ?_
   go_wp2_with fail
   go_ret
   exact ⟨by simp, G3⟩
end Go.Proofs.YtjedbfbolifjjaaGreatDoor

namespace Go.Proofs.YtjedbfbolifjjaaGreatDoor
open Go.RowKit Go.Maps
variable {W W' : World}
theorem cell_one (W : World) (v : Value) (t : TypeId) : (W.alloc (.cells #[v] t)).cell? ⟨W.heap.size, 0, none⟩ = some v := by
 have h := heap_alloc_new W (.cells #[v] t)
 unfold World.cell?; rw [h]; rfl
set_option maxRecDepth 100000 in
set_option maxHeartbeats 1600000 in
theorem unc_c (W : World) (mb : Nat) : Calls Tryz.prog 55 #[.map (some mb)] W fun e w' => e = .returned (.func (.func 74) #[] #[ptr W.heap.size 0]) ∧ w' = W.alloc (.cells #[.map (some mb)] 73) := by
 go_enter Tryz.func55, Tryz.ntmps55
 go_wp2_with fail
 go_ret
 exact ⟨rfl, rfl⟩
set_option maxRecDepth 100000 in
set_option maxHeartbeats 1600000 in
theorem some_c (W : World) (n u : Nat) : Calls Tryz.prog 40 #[.func (.func n) #[] #[], ptr u 0] W fun e w' => e = .returned (.func (.func 41) #[] #[ptr u 0, ptr W.heap.size 0]) ∧ w' = W.alloc (.cells #[.func (.func n) #[] #[]] 69) := by
 go_enter Tryz.func40, Tryz.ntmps40
 go_wp2_with fail
 go_ret
 exact ⟨rfl, rfl⟩
/-- A pass that asks anyPart. -/
def AnyIs (n g o : Nat) (caps : Array Value) (r : Bool) (W : World) : Prop := Calls Tryz.prog 42 #[ptr g o, .func (.func n) #[] caps] W fun e w' => e = .returned (.bool r) ∧ Gr (fun _ => False) W w'
set_option maxRecDepth 100000 in
set_option maxHeartbeats 1600000 in
theorem pany_c (W : World) (n u v g o : Nat) (r : Bool) (xu : W.cell? ⟨u, 0, none⟩ = some (ptr g o)) (xv : W.cell? ⟨v, 0, none⟩ = some (.func (.func n) #[] #[])) (h : AnyIs n g o #[] r W) : Calls Tryz.prog 41 #[ptr u 0, ptr v 0] W fun e w' => e = .returned (.bool r) ∧ Gr (fun _ => False) W w' := by
 have hu := World.block_lt_of_cell? _ _ xu
 have hv := World.block_lt_of_cell? _ _ xv
 dsimp only at hu hv
 unfold AnyIs at h
 replace h := Lib.hid h
 go_enter Tryz.func41, Tryz.ntmps41
 go_wp2_with fail
 refine h.out.mono ?_
 rintro e w1 ⟨rfl, g1⟩
 go_wp2_with fail
 go_ret
 exact ⟨rfl, g1⟩
set_option maxRecDepth 100000 in
set_option maxHeartbeats 1600000 in
theorem pcrowd_c (N : Nat) (W : World) (u g o : Nat) (T : Tr) (xu : W.cell? ⟨u, 0, none⟩ = some (ptr g o)) (hs : Szs [T]) (hT : TAtG N W g o T) (hg : g < N) (hN : N ≤ W.heap.size) : Calls Tryz.prog 43 #[ptr u 0] W fun e w' => e = .returned (.bool (crowdV T)) ∧ Gr (fun _ => False) W w' := by
 have hu := World.block_lt_of_cell? _ _ xu
 dsimp only at hu
 have h := Lib.hid (crowded_c N T hs W g o hT hg hN)
 clear hT
 go_enter Tryz.func43, Tryz.ntmps43
 go_wp2_with fail
 refine h.out.mono ?_
 rintro e w1 ⟨rfl, g1⟩
 go_wp2_with fail
 go_ret
 exact ⟨rfl, g1⟩
set_option maxRecDepth 100000 in
set_option maxHeartbeats 1600000 in
theorem pmis_c (N : Nat) (W : World) (u g o : Nat) (k : Int) (s : ByteArray) (n : Int) (b : List Int) (l : List Tr) (xu : W.cell? ⟨u, 0, none⟩ = some (ptr g o)) (hs : Szs [Tr.mk k s n b l]) (hT : TAtG N W g o (.mk k s n b l)) (hg : g < N) (hN : N ≤ W.heap.size) : Calls Tryz.prog 45 #[ptr u 0] W fun e w' => e = .returned (.bool ((k != 18) || (preL [Tr.mk k s n b l]).any misV)) ∧ Gr (fun _ => False) W w' := by
 have hu := World.block_lt_of_cell? _ _ xu
 dsimp only at hu
 have h := any_c (mis_c N) (.mk k s n b l) hs (fun U hU => hs U hU) W g o trivial hT hg hN
 obtain ⟨ba, bc, la, lc, ⟨x0, x1, x2, x3, x4⟩, hrow, hgl⟩ := hT.parts
 generalize (preL [Tr.mk k s n b l]).any misV = r at h ⊢
 replace h := Lib.hid h
 clear hT hrow x1 x2 x3 x4 hs
 cases hk : k != 18 with
 | true =>
  go_enter Tryz.func45, Tryz.ntmps45
  go_wp2_with fail
  go_ret
  exact ⟨rfl, Gr.refl _ _⟩
 | false =>
  go_enter Tryz.func45, Tryz.ntmps45
  go_wp2_with fail
  refine h.out.mono ?_
  rintro e w1 ⟨rfl, g1⟩
  go_wp2_with fail
  go_ret
  exact ⟨rfl, g1⟩
abbrev SV (u g o : Nat) (la : Option Addr) (n lc : Nat) (w : World) : Prop := w.cell? ⟨u, 0, none⟩ = some (ptr g o) ∧ w.cell? ⟨g, o + 4, none⟩ = some (.slice la n lc)
theorem SV.gr {u g o : Nat} {la : Option Addr} {n lc : Nat} (h : SV u g o la n lc W) (gr : Gr (fun _ => False) W W') : SV u g o la n lc W' :=
 ⟨cell_gr h.1 gr (fun e => e), cell_gr h.2 gr (fun e => e)⟩
set_option maxRecDepth 100000 in
set_option maxHeartbeats 3200000 in
theorem ptwice_c (N : Nat) (W : World) (u g o : Nat) (k : Int) (s : ByteArray) (n : Int) (b : List Int) (l : List Tr) (r : Bool) (xu : W.cell? ⟨u, 0, none⟩ = some (ptr g o)) (hs : Szs [Tr.mk k s n b l]) (hl : l.length ≤ 4000) (hT : TAtG N W g o (.mk k s n b l)) (hg : g < N) (hN : N ≤ W.heap.size) (ha : ∀ w, Gr (fun _ => False) W w → AnyIs 50 g o #[] r w) :
 Calls Tryz.prog 48 #[ptr u 0] W fun e w' => e = .returned (.bool (decide (((hdsL [] l).length : Int) < (l.length : Int)) || r)) ∧ Gr (fun _ => False) W w' := by
 have hu := World.block_lt_of_cell? _ _ xu
 dsimp only at hu
 obtain ⟨ba, bc, la, lc, ⟨x0, x1, x2, x3, x4⟩, hrow, hgl⟩ := hT.parts
 have hhd := Lib.hid (heads_c N W.drew g o k s n b l (hT.g0 (Gr.drew _ _) hg) hs hl hg hN)
 obtain ⟨mb, hmb⟩ : ∃ mb, W.drew.heap.size = mb := ⟨_, rfl⟩
 rw [hmb] at hhd
 replace hmb := Lib.hid hmb
 have hany := Lib.hid ha
 unfold AnyIs at hany
 have S0 : Hid (SV u g o la l.length lc W) := ⟨xu, x4⟩
 have G0 : Gr (fun _ => False) W W.drew := Gr.drew _ _
 have TS : SV u g o la l.length lc W.drew := SV.gr S0.out G0
 have hud : u < W.drew.heap.size := hu
 have hgd : g < W.drew.heap.size := hgl
 clear hrow hT x0 x1 x2 x3 x4 xu hs ha
 generalize hdsL [] l = L at *
 cases hd : decide ((L.length : Int) < (l.length : Int)) with
 | true =>
  go_enter Tryz.func48, Tryz.ntmps48
  go_wp2_with fail
  refine wp_region_L (L := 100) (T := SV u g o la l.length lc) (by kernel_rfl) ?_
  refine wpAnyN_at (i := 0) (v := ptr g o) (some 2) rfl rfl (by kernel_rfl) (by kernel_rfl) (by kernel_rfl) (by kernel_rfl) (fun _ _ _ h => h) (Or.inl ⟨by rfl, ?_⟩) TS ?_
  · intro w hSw
    obtain ⟨qu, q4⟩ := hSw
    go_simp
    try (intro h; exfalso; omega)
  try simp only [Act.put, sa1, sa2, sa3]
  refine wpAnyN_at (i := 3) (v := ptr g o) (some 5) rfl rfl (by kernel_rfl) (by kernel_rfl) (by kernel_rfl) (by kernel_rfl) (fun _ _ _ h => h) (Or.inl ⟨by rfl, ?_⟩) TS ?_
  · intro w hSw
    obtain ⟨qu, q4⟩ := hSw
    go_simp
    try (intro h; exfalso; omega)
  try simp only [Act.put, sa1, sa2, sa3]
  refine wpAnyN_at (i := 4) (v := ptr g o) (some 6) rfl rfl (by kernel_rfl) (by kernel_rfl) (by kernel_rfl) (by kernel_rfl) (fun _ _ _ h => h) (Or.inl ⟨by rfl, ?_⟩) TS ?_
  · intro w hSw
    obtain ⟨qu, q4⟩ := hSw
    go_simp
    try (intro h; exfalso; omega)
  try simp only [Act.put, sa1, sa2, sa3]
  refine wpAnyN_at (i := 5) (v := ptr g (o + 4)) (some 7) rfl rfl (by kernel_rfl) (by kernel_rfl) (by kernel_rfl) (by kernel_rfl) (fun _ _ _ h => h) (Or.inl ⟨by rfl, ?_⟩) TS ?_
  · intro w hSw
    obtain ⟨qu, q4⟩ := hSw
    go_simp
    try (intro h; exfalso; omega)
  try simp only [Act.put, sa1, sa2, sa3]
  refine wpAnyN_at (i := 6) (v := .slice la l.length lc) (some 8) rfl rfl (by kernel_rfl) (by kernel_rfl) (by kernel_rfl) (by kernel_rfl) (fun _ _ _ h => h) (Or.inl ⟨by rfl, ?_⟩) TS ?_
  · intro w hSw
    obtain ⟨qu, q4⟩ := hSw
    go_simp
    try (intro h; exfalso; omega)
  try simp only [Act.put, sa1, sa2, sa3]
  refine wpAnyN_at (i := 7) (v := .int .i64 (l.length : Int)) (some 9) rfl rfl (by kernel_rfl) (by kernel_rfl) (by kernel_rfl) (by kernel_rfl) (fun _ _ _ h => h) (Or.inl ⟨by rfl, ?_⟩) TS ?_
  · intro w hSw
    obtain ⟨qu, q4⟩ := hSw
    go_simp
    try (intro h; exfalso; omega)
  try simp only [Act.put, sa1, sa2, sa3]
  refine wpAnyL_one (i := 1) (by kernel_rfl) rfl (fun K hK => ?_)
  go_simp
  refine hhd.out.mono ?_
  rintro e w2 ⟨rfl, h2, g2⟩
  have G2 : Gr (fun _ => False) W w2 := G0.trans g2
  have TS : SV u g o la l.length lc w2 := SV.gr S0.out G2
  have hlen := Hs.len h2 3
  refine hK.out _ _ (fun _ => TS) ?_
  clear hK K
  try simp only [Act.put, sa1, sa2, sa3]
  refine wpAnyL_one (i := 2) (by kernel_rfl) rfl (fun K hK => ?_)
  go_simp
  refine hK.out _ _ (fun _ => TS) ?_
  clear hK K
  try simp only [Act.put, sa1, sa2, sa3]
  clear hlen
  refine wpAnyN_at (i := 8) (v := .bool true) (some 10) rfl rfl (by kernel_rfl) (by kernel_rfl) (by kernel_rfl) (by kernel_rfl) (fun _ _ _ h => h) (Or.inl ⟨by rfl, ?_⟩) TS ?_
  · intro w hSw
    obtain ⟨qu, q4⟩ := hSw
    go_simp
    try (simp only [decide_eq_true_eq, decide_eq_false_iff_not] at hd; omega)
    try (intro h; exfalso; omega)
  try simp only [Act.put, sa1, sa2, sa3]
  refine wpAnyN_at (i := 9) (v := .bool true) (some 11) rfl rfl (by kernel_rfl) (by kernel_rfl) (by kernel_rfl) (by kernel_rfl) (fun _ _ _ h => h) (Or.inl ⟨by rfl, ?_⟩) TS ?_
  · intro w hSw
    obtain ⟨qu, q4⟩ := hSw
    go_simp
    try (intro h; exfalso; omega)
  try simp only [Act.put, sa1, sa2, sa3]
  refine wpAnyN_at (i := 10) (v := undef) (some 12) rfl rfl (by kernel_rfl) (by kernel_rfl) (by kernel_rfl) (by kernel_rfl) (fun _ _ _ h => h) (Or.inr ⟨by rfl, rfl⟩) TS ?_
  try simp only [Act.put, sa1, sa2, sa3]
  refine wpAnyN_at (i := 11) (v := undef) (some 13) rfl rfl (by kernel_rfl) (by kernel_rfl) (by kernel_rfl) (by kernel_rfl) (fun _ _ _ h => h) (Or.inr ⟨by rfl, rfl⟩) TS ?_
  try simp only [Act.put, sa1, sa2, sa3]
  refine wpAnyN_at (i := 12) (v := .bool true) (some 14) rfl rfl (by kernel_rfl) (by kernel_rfl) (by kernel_rfl) (by kernel_rfl) (fun _ _ _ h => h) (Or.inl ⟨by rfl, ?_⟩) TS ?_
  · intro w hSw
    obtain ⟨qu, q4⟩ := hSw
    go_simp
    try (intro h; exfalso; omega)
  try simp only [Act.put, sa1, sa2, sa3]
  refine wpAnyL_one (i := 13) (by kernel_rfl) rfl (fun K hK => ?_)
  go_simp
  refine hK.out _ _ (fun _ => TS) ?_
  clear hK K
  try simp only [Act.put, sa1, sa2, sa3]
  refine wpAnyL_done (by kernel_rfl) ?_ _
  refine NoPanic.normal ?_
  go_wp2_with fail
  go_ret
  exact ⟨rfl, G2⟩
 | false =>
  go_enter Tryz.func48, Tryz.ntmps48
  go_wp2_with fail
  refine wp_region_L (L := 100) (T := SV u g o la l.length lc) (by kernel_rfl) ?_
  refine wpAnyN_at (i := 0) (v := ptr g o) (some 2) rfl rfl (by kernel_rfl) (by kernel_rfl) (by kernel_rfl) (by kernel_rfl) (fun _ _ _ h => h) (Or.inl ⟨by rfl, ?_⟩) TS ?_
  · intro w hSw
    obtain ⟨qu, q4⟩ := hSw
    go_simp
    try (intro h; exfalso; omega)
  try simp only [Act.put, sa1, sa2, sa3]
  refine wpAnyN_at (i := 3) (v := ptr g o) (some 5) rfl rfl (by kernel_rfl) (by kernel_rfl) (by kernel_rfl) (by kernel_rfl) (fun _ _ _ h => h) (Or.inl ⟨by rfl, ?_⟩) TS ?_
  · intro w hSw
    obtain ⟨qu, q4⟩ := hSw
    go_simp
    try (intro h; exfalso; omega)
  try simp only [Act.put, sa1, sa2, sa3]
  refine wpAnyN_at (i := 4) (v := ptr g o) (some 6) rfl rfl (by kernel_rfl) (by kernel_rfl) (by kernel_rfl) (by kernel_rfl) (fun _ _ _ h => h) (Or.inl ⟨by rfl, ?_⟩) TS ?_
  · intro w hSw
    obtain ⟨qu, q4⟩ := hSw
    go_simp
    try (intro h; exfalso; omega)
  try simp only [Act.put, sa1, sa2, sa3]
  refine wpAnyN_at (i := 5) (v := ptr g (o + 4)) (some 7) rfl rfl (by kernel_rfl) (by kernel_rfl) (by kernel_rfl) (by kernel_rfl) (fun _ _ _ h => h) (Or.inl ⟨by rfl, ?_⟩) TS ?_
  · intro w hSw
    obtain ⟨qu, q4⟩ := hSw
    go_simp
    try (intro h; exfalso; omega)
  try simp only [Act.put, sa1, sa2, sa3]
  refine wpAnyN_at (i := 6) (v := .slice la l.length lc) (some 8) rfl rfl (by kernel_rfl) (by kernel_rfl) (by kernel_rfl) (by kernel_rfl) (fun _ _ _ h => h) (Or.inl ⟨by rfl, ?_⟩) TS ?_
  · intro w hSw
    obtain ⟨qu, q4⟩ := hSw
    go_simp
    try (intro h; exfalso; omega)
  try simp only [Act.put, sa1, sa2, sa3]
  refine wpAnyN_at (i := 7) (v := .int .i64 (l.length : Int)) (some 9) rfl rfl (by kernel_rfl) (by kernel_rfl) (by kernel_rfl) (by kernel_rfl) (fun _ _ _ h => h) (Or.inl ⟨by rfl, ?_⟩) TS ?_
  · intro w hSw
    obtain ⟨qu, q4⟩ := hSw
    go_simp
    try (intro h; exfalso; omega)
  try simp only [Act.put, sa1, sa2, sa3]
  refine wpAnyL_one (i := 1) (by kernel_rfl) rfl (fun K hK => ?_)
  go_simp
  refine hhd.out.mono ?_
  rintro e w2 ⟨rfl, h2, g2⟩
  have G2 : Gr (fun _ => False) W w2 := G0.trans g2
  have TS : SV u g o la l.length lc w2 := SV.gr S0.out G2
  have hlen := Hs.len h2 3
  refine hK.out _ _ (fun _ => TS) ?_
  clear hK K
  try simp only [Act.put, sa1, sa2, sa3]
  refine wpAnyL_one (i := 2) (by kernel_rfl) rfl (fun K hK => ?_)
  go_simp
  refine hK.out _ _ (fun _ => TS) ?_
  clear hK K
  try simp only [Act.put, sa1, sa2, sa3]
  clear hlen
  refine wpAnyN_at (i := 8) (v := .bool false) (some 10) rfl rfl (by kernel_rfl) (by kernel_rfl) (by kernel_rfl) (by kernel_rfl) (fun _ _ _ h => h) (Or.inl ⟨by rfl, ?_⟩) TS ?_
  · intro w hSw
    obtain ⟨qu, q4⟩ := hSw
    go_simp
    try (simp only [decide_eq_true_eq, decide_eq_false_iff_not] at hd; omega)
    try (intro h; exfalso; omega)
  try simp only [Act.put, sa1, sa2, sa3]
  refine wpAnyN_at (i := 9) (v := .bool false) (some 11) rfl rfl (by kernel_rfl) (by kernel_rfl) (by kernel_rfl) (by kernel_rfl) (fun _ _ _ h => h) (Or.inl ⟨by rfl, ?_⟩) TS ?_
  · intro w hSw
    obtain ⟨qu, q4⟩ := hSw
    go_simp
    try (intro h; exfalso; omega)
  try simp only [Act.put, sa1, sa2, sa3]
  refine wpAnyN_at (i := 10) (v := ptr g o) (some 12) rfl rfl (by kernel_rfl) (by kernel_rfl) (by kernel_rfl) (by kernel_rfl) (fun _ _ _ h => h) (Or.inl ⟨by rfl, ?_⟩) TS ?_
  · intro w hSw
    obtain ⟨qu, q4⟩ := hSw
    go_simp
    try (intro h; exfalso; omega)
  try simp only [Act.put, sa1, sa2, sa3]
  refine wpAnyL_one (i := 11) (by kernel_rfl) rfl (fun K hK => ?_)
  go_simp
  refine (hany.out _ G2).mono ?_
  rintro e w3 ⟨rfl, g3⟩
  have G3 : Gr (fun _ => False) W w3 := G2.trans g3
  have TS : SV u g o la l.length lc w3 := SV.gr S0.out G3
  refine hK.out _ _ (fun _ => TS) ?_
  clear hK K
  try simp only [Act.put, sa1, sa2, sa3]
  refine wpAnyN_at (i := 12) (v := .bool r) (some 14) rfl rfl (by kernel_rfl) (by kernel_rfl) (by kernel_rfl) (by kernel_rfl) (fun _ _ _ h => h) (Or.inl ⟨by rfl, ?_⟩) TS ?_
  · intro w hSw
    obtain ⟨qu, q4⟩ := hSw
    go_simp
    try (intro h; exfalso; omega)
  try simp only [Act.put, sa1, sa2, sa3]
  refine wpAnyL_one (i := 13) (by kernel_rfl) rfl (fun K hK => ?_)
  go_simp
  refine hK.out _ _ (fun _ => TS) ?_
  clear hK K
  try simp only [Act.put, sa1, sa2, sa3]
  refine wpAnyL_done (by kernel_rfl) ?_ _
  refine NoPanic.normal ?_
  go_wp2_with fail
  go_ret
  exact ⟨rfl, G3⟩
set_option maxRecDepth 100000 in
set_option maxHeartbeats 3200000 in
theorem pcall_c (N : Nat) (W : World) (u g o : Nat) (k : Int) (s : ByteArray) (n : Int) (b : List Int) (l : List Tr) (xu : W.cell? ⟨u, 0, none⟩ = some (ptr g o)) (hs : Szs [Tr.mk k s n b l]) (hl : l.length ≤ 4000) (hB : Bu W) (hT : TAtG N W g o (.mk k s n b l)) (hg : g < N) (hN : N ≤ W.heap.size) :
 Calls Tryz.prog 54 #[ptr u 0] W fun e w' => e = .returned (.bool ((preL [Tr.mk k s n b l]).any (uncV (hdsL [] l)))) ∧ Gr (fun _ => False) W w' := by
 have hu := World.block_lt_of_cell? _ _ xu
 dsimp only at hu
 obtain ⟨ba, bc, la, lc, ⟨x0, x1, x2, x3, x4⟩, hrow, hgl⟩ := hT.parts
 have hhd := Lib.hid (heads_c N W.drew g o k s n b l (hT.g0 (Gr.drew _ _) hg) hs hl hg hN)
 obtain ⟨mb, hmb⟩ : ∃ mb, W.drew.heap.size = mb := ⟨_, rfl⟩
 rw [hmb] at hhd
 replace hmb := Lib.hid hmb
 have hany : Hid (∀ v mb w, Gr (fun _ => False) W w → HsAt v mb (hdsL [] l) w → Calls Tryz.prog 42 #[ptr g o, .func (.func 74) #[] #[ptr v 0]] w fun e w' => e = .returned (.bool ((preL [Tr.mk k s n b l]).any (uncV (hdsL [] l)))) ∧ Gr (fun _ => False) w w') := fun v mb w gw hA =>
  any_c (unc_so N v mb (hdsL [] l)) (.mk k s n b l) hs (fun U hU => hs U hU) w g o hA (hT.g0 gw hg) hg (Nat.le_trans hN gw.size)
 have S0 : Hid (SV u g o la l.length lc W) := ⟨xu, x4⟩
 have G0 : Gr (fun _ => False) W W.drew := Gr.drew _ _
 have TS : SV u g o la l.length lc W.drew := SV.gr S0.out G0
 have hud : u < W.drew.heap.size := hu
 have hgd : g < W.drew.heap.size := hgl
 replace hB := Lib.hid hB
 clear hrow hT x0 x1 x2 x3 x4 xu hs
 generalize (preL [Tr.mk k s n b l]).any (uncV (hdsL [] l)) = r at *
 go_enter Tryz.func54, Tryz.ntmps54
 go_wp2_with fail
 refine wp_region_L (L := 100) (T := SV u g o la l.length lc) (by kernel_rfl) ?_
 refine wpAnyN_at (i := 0) (v := ptr g o) (some 2) rfl rfl (by kernel_rfl) (by kernel_rfl) (by kernel_rfl) (by kernel_rfl) (fun _ _ _ h => h) (Or.inl ⟨by rfl, ?_⟩) TS ?_
 · intro w hSw
   obtain ⟨qu, q4⟩ := hSw
   go_simp
   try (intro h; exfalso; omega)
 try simp only [Act.put, sa1, sa2, sa3]
 refine wpAnyN_at (i := 1) (v := ptr g o) (some 3) rfl rfl (by kernel_rfl) (by kernel_rfl) (by kernel_rfl) (by kernel_rfl) (fun _ _ _ h => h) (Or.inl ⟨by rfl, ?_⟩) TS ?_
 · intro w hSw
   obtain ⟨qu, q4⟩ := hSw
   go_simp
   try (intro h; exfalso; omega)
 try simp only [Act.put, sa1, sa2, sa3]
 refine wpAnyL_one (i := 2) (by kernel_rfl) rfl (fun K hK => ?_)
 go_simp
 refine hhd.out.mono ?_
 rintro e w2 ⟨rfl, h2, g2⟩
 have G2 : Gr (fun _ => False) W w2 := G0.trans g2
 have TS : SV u g o la l.length lc w2 := SV.gr S0.out G2
 refine hK.out _ _ (fun _ => TS) ?_
 clear hK K
 try simp only [Act.put, sa1, sa2, sa3]
 refine wpAnyL_one (i := 3) (by kernel_rfl) rfl (fun K hK => ?_)
 go_simp
 refine (unc_c w2 _).mono ?_
 rintro e w3 ⟨rfl, rfl⟩
 have g3 := Gr.alloc w2 (.cells #[.map (some mb)] 73) (fun _ => False)
 have hAt : HsAt w2.heap.size mb (hdsL [] l) (w2.alloc (.cells #[.map (some mb)] 73)) := ⟨cell_one _ _ _, h2.gr g3 (fun e => e), Bu.gr hB.out (G2.trans g3) (fun e => e)⟩
 have G3 : Gr (fun _ => False) W (w2.alloc (.cells #[.map (some mb)] 73)) := G2.trans g3
 have TS : SV u g o la l.length lc (w2.alloc (.cells #[.map (some mb)] 73)) := SV.gr S0.out G3
 have hcall := hany.out w2.heap.size mb _ G3 hAt
 replace hcall := Lib.hid hcall
 refine hK.out _ _ (fun _ => TS) ?_
 clear hK K
 try simp only [Act.put, sa1, sa2, sa3]
 refine wpAnyL_one (i := 4) (by kernel_rfl) rfl (fun K hK => ?_)
 go_simp
 refine hcall.out.mono ?_
 rintro e w4 ⟨rfl, g4⟩
 have G4 : Gr (fun _ => False) W w4 := G3.trans g4
 have TS : SV u g o la l.length lc w4 := SV.gr S0.out G4
 refine hK.out _ _ (fun _ => TS) ?_
 clear hK K
 try simp only [Act.put, sa1, sa2, sa3]
 refine wpAnyL_one (i := 5) (by kernel_rfl) rfl (fun K hK => ?_)
 go_simp
 refine hK.out _ _ (fun _ => TS) ?_
 clear hK K
 try simp only [Act.put, sa1, sa2, sa3]
 refine wpAnyL_done (by kernel_rfl) ?_ _
 refine NoPanic.normal ?_
 go_wp2_with fail
 go_ret
 exact ⟨rfl, G4⟩
abbrev mainB : ByteArray := { data := #[109, 97, 105, 110] }
set_option maxRecDepth 100000 in
set_option maxHeartbeats 1600000 in
theorem pmain_c (N : Nat) (W : World) (u g o : Nat) (k : Int) (s : ByteArray) (n : Int) (b : List Int) (l : List Tr) (xu : W.cell? ⟨u, 0, none⟩ = some (ptr g o)) (hs : Szs [Tr.mk k s n b l]) (hl : l.length ≤ 4000) (hT : TAtG N W g o (.mk k s n b l)) (hg : g < N) (hN : N ≤ W.heap.size) :
 Calls Tryz.prog 56 #[ptr u 0] W fun e w' => e = .returned (.bool (!inH (hdsL [] l) (mainB, 0))) ∧ Gr (fun _ => False) W w' := by
 have hu := World.block_lt_of_cell? _ _ xu
 dsimp only at hu
 have hhd := Lib.hid (heads_c N W g o k s n b l hT hs hl hg hN)
 obtain ⟨mb, hmb⟩ : ∃ mb, W.heap.size = mb := ⟨_, rfl⟩
 rw [hmb] at hhd
 have hhas : Hid (∀ w, Hs w mb (hdsL [] l) → Calls Tryz.prog 57 #[.map (some mb), .string mainB, .int .i64 0] w fun e w' => e = .returned (.bool (inH (hdsL [] l) (mainB, 0))) ∧ Gr (fun _ => False) w w') := fun w h => has_c w mb _ mainB 0 h (hOk_of (by decide) (by omega) (by omega))
 generalize inH (hdsL [] l) (mainB, 0) = r at hhas ⊢
 clear hT hs
 go_enter Tryz.func56, Tryz.ntmps56
 go_wp2_with fail
 refine hhd.out.mono ?_
 rintro e w1 ⟨rfl, h1, g1⟩
 replace h1 := Lib.hid h1
 go_wp2_with fail
 refine (hhas.out w1 h1.out).mono ?_
 rintro e w2 ⟨rfl, g2⟩
 go_wp2_with fail
 go_ret
 exact ⟨by simp, g1.trans g2⟩
end Go.Proofs.YtjedbfbolifjjaaGreatDoor
