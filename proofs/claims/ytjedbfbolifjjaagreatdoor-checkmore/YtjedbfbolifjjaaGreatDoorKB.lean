/-
  Names of atoms and of variables.
  Maps from texts, of the call's own.
-/
import Derived.Test.YtjedbfbolifjjaaGreatDoorD
import Derived.Test.YtjedbfbolifjjaaGreatDoorC
import Derived.Maps.OwnSet
import Derived.Maps.Range
import Derived.Maps.Views
import Derived.StringKeys
import Derived.Shelf.Abstract
set_option linter.unusedVariables false
set_option linter.unusedSimpArgs false
namespace Go.Proofs.YtjedbfbolifjjaaGreatDoor
open Go.RowKit Go.Maps
def oth (c : Int) : Bool := (decide (65 ≤ c) && decide (c ≤ 90)) || (decide (48 ≤ c) && decide (c ≤ 57)) || (c == 95)
def inNa (c : Int) : Bool := low c || oth c
def allN (s : ByteArray) (k : Nat) : Bool := (List.range k).all fun j => inNa (bt s j)
def isName (s : ByteArray) : Bool := decide (1 ≤ s.size) && decide (s.size ≤ 32) && low (bt s 0) && allN s s.size
theorem allN_succ (s : ByteArray) (k : Nat) : allN s (k + 1) = (allN s k && inNa (bt s k)) := by
 simp [allN, List.range_succ]
theorem allN_false (s : ByteArray) (k n : Nat) (hk : k < n) (h : inNa (bt s k) = false) : allN s n = false := by
 unfold allN
 rw [Bool.eq_false_iff]
 intro ha
 rw [List.all_eq_true] at ha
 have := ha k (List.mem_range.2 hk)
 rw [h] at this; cases this
def inNm (c : Int) : Bool := vab c || low c || (decide (48 ≤ c) && decide (c ≤ 57))
def allM (s : ByteArray) (k : Nat) : Bool := (List.range k).all fun j => inNm (bt s j)
/-- A variable's name, but not the blank one. -/
def isVarN (s : ByteArray) : Bool := decide (1 ≤ s.size) && decide (s.size ≤ 32) && !(s.toList == [95]) && vab (bt s 0) && allM s s.size
theorem allM_succ (s : ByteArray) (k : Nat) : allM s (k + 1) = (allM s k && inNm (bt s k)) := by
 simp [allM, List.range_succ]
theorem allM_false (s : ByteArray) (k n : Nat) (hk : k < n) (h : inNm (bt s k) = false) : allM s n = false := by
 unfold allM
 rw [Bool.eq_false_iff]
 intro ha
 rw [List.all_eq_true] at ha
 have := ha k (List.mem_range.2 hk)
 rw [h] at this; cases this
theorem ixa (s : ByteArray) (k : Nat) (h : k < s.size) (w : World) : (Instr.index 9 (.string s) (.int .i64 (k : Int))).run Tryz.prog w = .ok (.int .u8 (bt s k)) w := by
 rw [run_index_string w 9 s .i64 k (by kernel_rfl), dif_pos ⟨by omega, by omega⟩]
 have h2 : k < s.data.size := h
 have e : s[k]? = some s[k] := ByteArray.getElem?_lt' s k h
 simp only [bt, Int.toNat_natCast, Array.getElem?_eq_getElem h2, Option.getD_some]
 rfl
theorem ixa0 (s : ByteArray) (h : 0 < s.size) (w : World) : (Instr.index 9 (.string s) (.int .i64 0)).run Tryz.prog w = .ok (.int .u8 (bt s 0)) w := ixa s 0 h w


theorem alower_c (c : Int) (w : World) : Calls Tryz.prog 110 #[.int .u8 c] w fun e w' => e = .returned (.bool (low c)) ∧ w = w' := by
 by_cases h1 : 97 ≤ c <;> by_cases h2 : c ≤ 122 <;> simp only [low, h1, h2, decide_true, decide_false, Bool.and_true, Bool.and_false, Bool.false_and, Bool.true_and]
 all_goals (go_enter Tryz.func110, Tryz.ntmps110; go_wp2; go_ret; exact ⟨rfl, rfl⟩)
theorem mfirst_c (c : Int) (w : World) : Calls Tryz.prog 112 #[.int .u8 c] w fun e w' => e = .returned (.bool (vab c)) ∧ w = w' := by
 by_cases h1 : 65 ≤ c <;> by_cases h2 : c ≤ 90 <;> cases h3 : (c == 95) <;> simp only [vab, h1, h2, h3, decide_true, decide_false, Bool.and_true, Bool.and_false, Bool.false_and, Bool.true_and, Bool.or_true, Bool.or_false, Bool.false_or, Bool.true_or]
 all_goals (go_enter Tryz.func112, Tryz.ntmps112; go_wp2; go_ret; exact ⟨rfl, rfl⟩)
set_option maxHeartbeats 800000 in
theorem ainName_c (c : Int) (w : World) : Calls Tryz.prog 111 #[.int .u8 c] w fun e w' => e = .returned (.bool (inNa c)) ∧ w = w' := by
 go_enter Tryz.func111, Tryz.ntmps111
 go_wp2_with (first | (go_at_call 110; refine (alower_c _ _).mono ?_; rintro e w' ⟨rfl, rfl⟩))
 all_goals (go_ret; refine ⟨congrArg (fun b => Ending.returned (Value.bool b)) ?_, rfl⟩; rw [Bool.eq_iff_iff]; simp [inNa, oth, low] at *; try omega)

set_option maxHeartbeats 1600000 in
theorem aright_c (s : ByteArray) (w : World) : Calls Tryz.prog 93 #[.string s] w fun e w' => e = .returned (.bool (isName s)) ∧ w = w' := by
 by_cases h1 : 1 ≤ s.size
 ·
  by_cases h2 : s.size ≤ 32
  ·
   have h0 := ixa0 s h1
   by_cases h3 : low (bt s 0) = true
   ·
    go_enter Tryz.func93, Tryz.ntmps93
    go_wp2_with (first | (go_at_call 110; refine (alower_c _ _).mono ?_; rintro e w' ⟨rfl, rfl⟩))
    go_loop [20] (fun i => ∃ k : Nat, k ≤ s.size ∧ i = .int .i64 k ∧ allN s k = true) (fun i => s.size - (intOf i).toNat)
    case atStart => exact ⟨0, Nat.zero_le _, rfl, rfl⟩
    case round =>
     obtain ⟨k, hk, rfl, ha⟩ := hrel
     clear h0
     by_cases hlt : k < s.size
     ·
      have hk0 := ixa s k hlt
      go_wp2_with (first | (go_at_call 111; refine (ainName_c _ _).mono ?_; rintro e w' ⟨rfl, rfl⟩))
      · have hf : inNa (bt s k) = false := by simpa using (by assumption : (!inNa (bt s k)) = true)
        go_ret
        have : isName s = false := by simp [isName, allN_false s k s.size hlt hf]
        exact ⟨by rw [this]; rfl, rfl⟩
      · have hf : inNa (bt s k) = true := by simpa using (by assumption : (!inNa (bt s k)) = false)
        go_round
        case rel => exact ⟨k + 1, by omega, by go_num, by rw [allN_succ, ha, hf]; rfl⟩
        case measure => simp [intOf]; omega
     · have : k = s.size := by omega
       subst this
       go_wp2
       go_ret
       have : isName s = true := by simp [isName, ha, h1, h2, h3]
       exact ⟨by rw [this]; rfl, rfl⟩
   · have hn : isName s = false := by simp [isName, h3]
     rw [hn]
     go_enter Tryz.func93, Tryz.ntmps93
     go_wp2_with (first | (go_at_call 110; refine (alower_c _ _).mono ?_; rintro e w' ⟨rfl, rfl⟩))
     go_ret
     exact ⟨rfl, rfl⟩
  · have hn : isName s = false := by simp [isName, h2]
    rw [hn]
    go_enter Tryz.func93, Tryz.ntmps93
    go_wp2
    go_ret
    exact ⟨rfl, rfl⟩
 ·
  have hn : isName s = false := by simp [isName, h1]
  rw [hn]
  go_enter Tryz.func93, Tryz.ntmps93
  go_wp2
  go_ret
  exact ⟨rfl, rfl⟩

set_option maxHeartbeats 800000 in
theorem minName_c (c : Int) (w : World) : Calls Tryz.prog 113 #[.int .u8 c] w fun e w' => e = .returned (.bool (inNm c)) ∧ w = w' := by
 go_enter Tryz.func113, Tryz.ntmps113
 go_wp2_with (first | (go_at_call 112; refine (mfirst_c _ _).mono ?_; rintro e w' ⟨rfl, rfl⟩))
 all_goals (go_ret; refine ⟨congrArg (fun b => Ending.returned (Value.bool b)) ?_, rfl⟩; rw [Bool.eq_iff_iff]; simp [inNm, oth, low, vab] at *; try omega)

set_option maxHeartbeats 1600000 in
theorem mname_c (s : ByteArray) (w : World) : Calls Tryz.prog 94 #[.string s] w fun e w' => e = .returned (.bool (isVarN s)) ∧ w = w' := by
 by_cases h1 : 1 ≤ s.size
 ·
  by_cases h2 : s.size ≤ 32
  ·
   have h0 := ixa0 s h1
   by_cases hu : (s.toList == [95]) = true
   · have hn : isVarN s = false := by simp [isVarN, hu]
     rw [hn]
     go_enter Tryz.func94, Tryz.ntmps94
     go_wp2
     go_ret
     exact ⟨rfl, rfl⟩
   replace hu : (s.toList == [95]) = false := by simpa using hu
   by_cases h3 : vab (bt s 0) = true
   ·
    go_enter Tryz.func94, Tryz.ntmps94
    go_wp2_with (first | (go_at_call 112; refine (mfirst_c _ _).mono ?_; rintro e w' ⟨rfl, rfl⟩))
    go_loop [24] (fun i => ∃ k : Nat, k ≤ s.size ∧ i = .int .i64 k ∧ allM s k = true) (fun i => s.size - (intOf i).toNat)
    case atStart => exact ⟨0, Nat.zero_le _, rfl, rfl⟩
    case round =>
     obtain ⟨k, hk, rfl, ha⟩ := hrel
     clear h0
     by_cases hlt : k < s.size
     ·
      have hk0 := ixa s k hlt
      go_wp2_with (first | (go_at_call 113; refine (minName_c _ _).mono ?_; rintro e w' ⟨rfl, rfl⟩))
      · have hf : inNm (bt s k) = false := by simpa using (by assumption : (!inNm (bt s k)) = true)
        go_ret
        have : isVarN s = false := by simp [isVarN, allM_false s k s.size hlt hf]
        exact ⟨by rw [this]; rfl, rfl⟩
      · have hf : inNm (bt s k) = true := by simpa using (by assumption : (!inNm (bt s k)) = false)
        go_round
        case rel => exact ⟨k + 1, by omega, by go_num, by rw [allM_succ, ha, hf]; rfl⟩
        case measure => simp [intOf]; omega
     · have : k = s.size := by omega
       subst this
       go_wp2
       go_ret
       have : isVarN s = true := by simp [isVarN, ha, h1, h2, h3, hu]
       exact ⟨by rw [this]; rfl, rfl⟩
   · have hn : isVarN s = false := by simp [isVarN, h3]
     rw [hn]
     go_enter Tryz.func94, Tryz.ntmps94
     go_wp2_with (first | (go_at_call 112; refine (mfirst_c _ _).mono ?_; rintro e w' ⟨rfl, rfl⟩))
     go_ret
     exact ⟨rfl, rfl⟩
  · have hn : isVarN s = false := by simp [isVarN, h2]
    rw [hn]
    go_enter Tryz.func94, Tryz.ntmps94
    go_wp2
    go_ret
    exact ⟨rfl, rfl⟩
 ·
  have hn : isVarN s = false := by simp [isVarN, h1]
  rw [hn]
  go_enter Tryz.func94, Tryz.ntmps94
  go_wp2
  go_ret
  exact ⟨rfl, rfl⟩


def binS (s : ByteArray) : Bool := (s.toList == [61, 61]) || (s.toList == [47, 61]) || (s.toList == [60]) || (s.toList == [62]) || (s.toList == [61, 60]) || (s.toList == [62, 61]) || (s.toList == [43]) || (s.toList == [45]) || (s.toList == [42]) || (s.toList == [47]) || (s.toList == [114, 101, 109])
set_option maxHeartbeats 1600000 in
theorem joins_c (s : ByteArray) (w : World) : Calls Tryz.prog 95 #[.string s] w fun e w' => e = .returned (.bool (binS s)) ∧ w = w' := by
 unfold binS
 go_enter Tryz.func95, Tryz.ntmps95
 go_wp2
 all_goals (go_ret; refine ⟨congrArg (fun b => Ending.returned (Value.bool b)) ?_, rfl⟩; first | (simp [*]; done) | simp_all)
end Go.Proofs.YtjedbfbolifjjaaGreatDoor

namespace Go.Proofs.YtjedbfbolifjjaaGreatDoor
open Go.RowKit Go.Maps Go.WideMaps
variable {S S' : Nat → Prop} {W W1 W' : World}
def RR (v : Value) : Option (DataW Value × List MemPlace) := some (.held v, [])
abbrev kOf (s : ByteArray) : Go.Lit := .string s.data.toList
theorem kOf_ne {a b : ByteArray} (h : a ≠ b) : kOf a ≠ kOf b := fun e => h (by
 have h2 : a.data.toList = b.data.toList := by injection e
 exact ByteArray.ext (Array.toList_inj.1 h2))
theorem law9 : Keyed Tryz.prog 9 := string_keyed Tryz.underlying9
theorem zero87 (w : World) : (zeroValue 87).run Tryz.prog w = .ok (.agg #[]) w := by kernel_rfl
/-- A map from texts: what it holds, and how many entries it has. -/
def Mo (W : World) (mb : Nat) (z : Value) (n : Nat) (R : ByteArray → Option Value) : Prop :=
 ∃ D, W.ownsMap Tryz.prog 9 RR mb n D ∧ Maps.size D = n ∧ ∀ s, Maps.has D (kOf s) = (R s).isSome ∧ D.atKey (kOf s) (.held z) = .held ((R s).getD z)
theorem Mo.lt {mb n : Nat} {z : Value} {R : ByteArray → Option Value} (h : Mo W mb z n R) : mb < W.heap.size := by
 obtain ⟨D, h1, _⟩ := h; exact h1.lt
theorem Mo.gr {mb n : Nat} {z : Value} {R : ByteArray → Option Value} (h : Mo W mb z n R) (g : Gr S W W') (hs : ¬ S mb) : Mo W' mb z n R := by
 have hl := h.lt
 obtain ⟨D, ⟨es, clock, h1, h2⟩, h3⟩ := h
 exact ⟨D, ⟨es, clock, (g.block mb hl hs).trans h1, h2⟩, h3⟩
theorem Mo.new (W : World) (z : Value) : Mo (W.alloc (.map #[] 0)) W.heap.size z 0 (fun _ => none) :=
 ⟨.map [], World.ownsMap_made W Tryz.prog 9 RR, rfl, fun s => ⟨rfl, rfl⟩⟩
theorem Mo.look {mb n : Nat} {z : Value} {R : ByteArray → Option Value} (h : Mo W mb z n R) {t e : TypeId} (ht : Tryz.prog.underlying t = some (.map 9 e)) (hz : (zeroValue e).run Tryz.prog W = .ok z W) (s : ByteArray) (hs : s.size ≤ 140737488351232) :
 (Instr.lookup t (.map (some mb)) (.string s) true).run Tryz.prog W = .ok (.tuple #[(R s).getD z, .bool (R s).isSome]) W := by
 obtain ⟨D, h1, h2, h3⟩ := h
 obtain ⟨v, ps, hr, hv⟩ := h1.look_ok law9 ht hz (zd := .held z) (zp := []) rfl (keyOf_string_mk Tryz.underlying9 (s := s) (by unfold maxLen; omega))
 obtain ⟨h4, h5⟩ := h3 s
 rw [h5] at hv
 simp only [RR, Option.some.injEq, Prod.mk.injEq, DataW.held.injEq] at hv
 rw [hr, hv.1, h4]
/-- One entry more, or another. -/
def ins (R : ByteArray → Option Value) (s : ByteArray) (v : Value) : ByteArray → Option Value := fun x => if x = s then some v else R x
theorem ins_same (R : ByteArray → Option Value) (s : ByteArray) (v : Value) : ins R s v s = some v := if_pos rfl
theorem ins_other (R : ByteArray → Option Value) {s x : ByteArray} (v : Value) (h : x ≠ s) : ins R s v x = R x := if_neg h
theorem Mo.put {mb n : Nat} {z : Value} {R : ByteArray → Option Value} (h : Mo W mb z n R) {t e : TypeId} (ht : Tryz.prog.underlying t = some (.map 9 e)) (s : ByteArray) (hs : s.size ≤ 140737488351232) (hn : n ≤ 1000000) (v : Value) :
 ∃ w', (Instr.mapUpdate t (.map (some mb)) (.string s) v).run Tryz.prog W = .ok () w' ∧ Mo w' mb z (if (R s).isSome = true then n else n + 1) (ins R s v) ∧ Gr (fun i => i = mb) W w' ∧ w'.heap.size = W.heap.size := by
 obtain ⟨D, h1, h2, h3⟩ := h
 obtain ⟨w', hr, h4, h5⟩ := h1.store law9 ht (by unfold maxLen; omega) (keyOf_string_mk Tryz.underlying9 (s := s) (by unfold maxLen; omega)) (val := v) (d := .held v) (ps := []) rfl
 have hsz : Maps.size (D.put (kOf s) (.held v)) = if (R s).isSome = true then n else n + 1 := by
  rw [size_put (h1.tidy law9), (h3 s).1, h2]
 refine ⟨w', hr, ⟨_, ?_, hsz, fun x => ?_⟩, Gr.of_grown h5.grown (fun i e => by cases e; rfl), ?_⟩
 · obtain ⟨es, clock, k1, k2, k3, k4⟩ := h4
   refine ⟨es, clock, k1, k2, ?_, k4⟩
   have e1 : Maps.size (D.put (kOf s) (.held v)) = es.size := by rw [k4]; simp [Maps.size, length_sorted]
   rw [← hsz, e1]; exact Nat.le_refl _
 ·
  by_cases e : x = s
  · subst e
    rw [has_put_same h1.isMap (show WideAt.IsKeyLit (kOf x) from trivial), atKey_put_same h1.isMap (show WideAt.IsKeyLit (kOf x) from trivial), ins_same]
    exact ⟨rfl, rfl⟩
  · rw [has_put_other (kOf_ne e), atKey_put_other (kOf_ne e), ins_other _ _ e]
    exact h3 x
 · obtain ⟨_, _, _, _, _, rfl⟩ := h5
   exact Array.size_setIfInBounds
theorem Mo.len {mb n : Nat} {z : Value} {R : ByteArray → Option Value} (h : Mo W mb z n R) {t e : TypeId} (ht : Tryz.prog.underlying t = some (.map 9 e)) (ty : TypeId) : (Builtin.len_ #[t] ty #[.map (some mb)]).run Tryz.prog W = .ok (.int .i64 (n : Int)) W := by
 obtain ⟨D, h1, h2, h3⟩ := h
 rw [h1.len ht ty, h2]
def inL (L : List ByteArray) (s : ByteArray) : Bool := L.any fun x => decide (x = s)
theorem inL_app (L : List ByteArray) (s x : ByteArray) : inL (L ++ [s]) x = (inL L x || decide (s = x)) := by simp [inL]
/-- A set of names. -/
def setOf (L : List ByteArray) : ByteArray → Option Value := fun s => if inL L s = true then some (.agg #[]) else none
def Bd (W : World) (mb : Nat) (L : List ByteArray) : Prop := Mo W mb (.agg #[]) L.length (setOf L)
theorem Bd.gr {mb : Nat} {L : List ByteArray} (h : Bd W mb L) (g : Gr S W W') (hs : ¬ S mb) : Bd W' mb L := Mo.gr h g hs
theorem Bd.lt {mb : Nat} {L : List ByteArray} (h : Bd W mb L) : mb < W.heap.size := Mo.lt h
theorem Bd.new (W : World) : Bd (W.alloc (.map #[] 0)) W.heap.size [] := by
 have : setOf [] = fun _ => none := funext fun s => if_neg (by simp [inL])
 unfold Bd
 rw [this]
 exact Mo.new W _
/-- Is it a name that is not there? -/
def newN (L : List ByteArray) (s : ByteArray) : Bool := !inL L s && !(s.toList == [95])
def putL (L : List ByteArray) (s : ByteArray) : List ByteArray := if newN L s = true then L ++ [s] else L
set_option maxRecDepth 20000 in
set_option maxHeartbeats 1600000 in
theorem put_c (W : World) (mb : Nat) (L : List ByteArray) (s : ByteArray) (hM : Bd W mb L) (hs : s.size ≤ 140737488351232) (hn : L.length ≤ 1000000) :
 Calls Tryz.prog 37 #[.map (some mb), .string s] W fun e w' => e = .returned (.bool (newN L s)) ∧ Bd w' mb (putL L s) ∧ Gr (fun k => k = mb) W w' := by
 have hl := hM.lt
 have hlook := Mo.look hM Tryz.underlying66 (zero87 W) s hs
 have hIs : (setOf L s).isSome = inL L s := by unfold setOf; cases h : inL L s <;> simp
 have hG : (setOf L s).getD (.agg #[]) = .agg #[] := by unfold setOf; cases h : inL L s <;> simp
 rw [hIs, hG] at hlook
 clear hIs hG
 have gA := Gr.alloc W (.cells #[] 87) (fun k => k = mb)
 have hMA := hM.gr (Gr.alloc W (.cells #[] 87) (fun _ => False)) (fun e => e)
 obtain ⟨w', hput, hM', hgp, hsz⟩ := Mo.put hMA Tryz.underlying66 s hs hn (.agg #[])
 by_cases h1 : inL L s = true
 ·
  have e1 : newN L s = false := by simp [newN, h1]
  have e2 : putL L s = L := by rw [putL, e1]; rfl
  rw [e1, e2]
  rw [h1] at hlook
  clear hput hM' hgp hsz
  replace hM := Lib.hid hM
  replace hMA := Lib.hid hMA
  go_enter Tryz.func37, Tryz.ntmps37
  go_wp2_with fail
  go_ret
  exact ⟨rfl, hMA.out, gA⟩
 ·
  replace h1 : inL L s = false := by simpa using h1
  rw [h1] at hlook
  by_cases h2 : (s.toList == [95]) = true
  ·
   have e1 : newN L s = false := by simp [newN, h2]
   have e2 : putL L s = L := by rw [putL, e1]; rfl
   rw [e1, e2]
   clear hput hM' hgp hsz
   replace hM := Lib.hid hM
   replace hMA := Lib.hid hMA
   go_enter Tryz.func37, Tryz.ntmps37
   go_wp2_with fail
   go_ret
   exact ⟨rfl, hMA.out, gA⟩
  ·
   replace h2 : (s.toList == [95]) = false := by simpa using h2
   have e1 : newN L s = true := by simp [newN, h1, h2]
   have e2 : putL L s = L ++ [s] := by rw [putL, e1]; rfl
   rw [e1, e2]
   have hB : Bd w' mb (L ++ [s]) := by
    have hn : (setOf L s).isSome = false := by unfold setOf; simp [h1]
    rw [hn] at hM'
    unfold Bd
    rw [show (L ++ [s]).length = L.length + 1 by simp]
    have : setOf (L ++ [s]) = ins (setOf L) s (.agg #[]) := funext fun x => by
     unfold setOf ins
     rw [inL_app]
     by_cases hx : x = s
     · subst hx; simp
     · cases hx2 : inL L x <;> simp [hx, hx2, Ne.symm hx]
    rw [this]
    exact hM'
   clear hM' hMA
   replace hM := Lib.hid hM
   replace hB := Lib.hid hB
   replace h1 := Lib.hid h1
   go_enter Tryz.func37, Tryz.ntmps37
   go_wp2_with fail
   go_ret
   exact ⟨rfl, hB.out, gA.trans hgp⟩
end Go.Proofs.YtjedbfbolifjjaaGreatDoor
