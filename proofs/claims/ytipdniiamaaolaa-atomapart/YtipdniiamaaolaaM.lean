/-
  Names put in one after the other: what each gets, and that it keeps it.
-/
import Derived.Test.YtipdniiamaaolaaH
namespace Go.Proofs.Ytipdniiamaaolaa
open Go.RowKit Go.Maps Go.WideMaps Go.Shelf

theorem putL_good {l : List ByteArray} {x : ByteArray} (h : Good l) : Good (putL l x) := by
  unfold putL
  split
  · rename_i hn
    split
    · exact h
    · rename_i hf
      split
      · exact h
      · exact h.snoc ((fnd_none l x 0).1 hf) hn (by omega)
  · exact h
theorem putL_len (l : List ByteArray) (x : ByteArray) : (putL l x).length ≤ l.length + 1 := by
  unfold putL
  split
  · split
    · omega
    · split
      · omega
      · simp
  · omega
theorem putL_mem {l : List ByteArray} {x : ByteArray} (hn : isName x = true) (hl : l.length < 4096) : x ∈ putL l x := by
  rcases hf : fnd l x 0 with _ | k
  · simp [putL, hn, hf, show ¬ 4096 ≤ l.length by omega]
  · obtain ⟨_, _, h3⟩ := fnd_some _ _ _ _ hf
    simp [putL, hn, hf, List.mem_of_getElem? h3]
theorem putL_sub {l : List ByteArray} {x s : ByteArray} (h : s ∈ l) : s ∈ putL l x := by
  unfold putL
  split
  · split
    · exact h
    · split
      · exact h
      · exact List.mem_append_left _ h
  · exact h
theorem fnd_putL {l : List ByteArray} {x s : ByteArray} {k : Nat} (h : fnd l s 0 = some k) : fnd (putL l x) s 0 = some k := by
  unfold putL
  split
  · split
    · exact h
    · split
      · exact h
      · rw [fnd_snoc, h]; rfl
  · exact h
theorem Good.none {l : List ByteArray} {s : ByteArray} (h : Good l) (hs : isName s = false) : fnd l s 0 = none :=
  (fnd_none l s 0).2 (fun hm => by rw [h.name s hm] at hs; cases hs)
theorem fnd_mem {l : List ByteArray} {s : ByteArray} (h : s ∈ l) : ∃ k, fnd l s 0 = some k := by
  rcases hf : fnd l s 0 with _ | k
  · exact absurd h ((fnd_none l s 0).1 hf)
  · exact ⟨k, rfl⟩
theorem fnd_lt {l : List ByteArray} {s : ByteArray} {k : Nat} (h : fnd l s 0 = some k) : k < l.length ∧ at_ l k = s := by
  obtain ⟨_, h2, h3⟩ := fnd_some _ _ _ _ h
  simp at h3 h2
  exact ⟨h2, by simp [at_, h3]⟩

/-- The names behind the first k puts. -/
def Pk (ss : Nat → ByteArray) : Nat → List ByteArray
  | 0 => []
  | k + 1 => putL (Pk ss k) (ss k)
theorem Pk_good (ss : Nat → ByteArray) : ∀ k, Good (Pk ss k)
  | 0 => good_nil
  | k + 1 => putL_good (Pk_good ss k)
theorem Pk_len (ss : Nat → ByteArray) : ∀ k, (Pk ss k).length ≤ k
  | 0 => Nat.le_refl _
  | k + 1 => Nat.le_trans (putL_len _ _) (Nat.succ_le_succ (Pk_len ss k))
theorem Pk_mem (ss : Nat → ByteArray) {j : Nat} (hn : isName (ss j) = true) : ∀ k, j < k → k ≤ 4096 → ss j ∈ Pk ss k
  | k + 1, hj, hk => by
    by_cases e : j = k
    · subst e; exact putL_mem hn (by have := Pk_len ss j; omega)
    · exact putL_sub (Pk_mem ss hn k (by omega) (by omega))

/-- A text's number, or -1. -/
def av (l : List ByteArray) (s : ByteArray) : Int := match fnd l s 0 with | some k => (k : Int) | none => -1
theorem av_name (ss : Nat → ByteArray) (k : Nat) (hk : k < 200) (hn : isName (ss k) = true) : putE (Pk ss k) (ss k) = 0 ∧ putN (Pk ss k) (ss k) = av (Pk ss (k + 1)) (ss k) := by
  have hl := Pk_len ss k
  have h4 : ¬ 4096 ≤ (Pk ss k).length := by omega
  rcases hf : fnd (Pk ss k) (ss k) 0 with _ | a
  · refine ⟨by simp [putE, hn, hf, h4], ?_⟩
    have e : Pk ss (k + 1) = Pk ss k ++ [ss k] := by simp [Pk, putL, hn, hf, h4]
    simp [putN, hn, hf, h4, av, e, fnd_snoc]
  · refine ⟨by simp [putE, hn, hf], ?_⟩
    have e : fnd (Pk ss (k + 1)) (ss k) 0 = some a := fnd_putL hf
    simp [putN, hn, hf, av, e]
theorem av_no (ss : Nat → ByteArray) (k : Nat) (hn : isName (ss k) = false) : putE (Pk ss k) (ss k) = 30 ∧ av (Pk ss (k + 1)) (ss k) = -1 := by
  refine ⟨by simp [putE, hn], ?_⟩
  simp [av, (Pk_good ss (k + 1)).none hn]
theorem av_keep (ss : Nat → ByteArray) {j k : Nat} (hj : j < k) (hk : k ≤ 4096) : av (Pk ss (k + 1)) (ss j) = av (Pk ss k) (ss j) := by
  cases hn : isName (ss j)
  · simp [av, (Pk_good ss (k + 1)).none hn, (Pk_good ss k).none hn]
  · obtain ⟨a, ha⟩ := fnd_mem (Pk_mem ss hn k hj hk)
    have e : fnd (Pk ss (k + 1)) (ss j) 0 = some a := fnd_putL ha
    simp [av, ha, e]
def avs (ss : Nat → ByteArray) (k : Nat) : List Int := (List.range k).map fun j => av (Pk ss k) (ss j)
theorem avs_len (ss : Nat → ByteArray) (k : Nat) : (avs ss k).length = k := by simp [avs]
theorem avs_succ (ss : Nat → ByteArray) (k : Nat) (hk : k ≤ 4096) : avs ss (k + 1) = avs ss k ++ [av (Pk ss (k + 1)) (ss k)] := by
  unfold avs
  rw [List.range_succ, List.map_append]
  congr 1
  apply List.map_congr_left
  intro j hj
  exact av_keep ss (List.mem_range.1 hj) hk
theorem avs_at (ss : Nat → ByteArray) (k j : Nat) (hj : j < k) : ((avs ss k).map (Value.int .i64))[j]? = some (.int .i64 (av (Pk ss k) (ss j))) := by
  simp [avs, hj]

/-! ### A row of ints beside a table -/
theorem row3_not {W : World} {b : Nat} {m : Option Nat} {sv v : Value} {l : List ByteArray} {base n : Nat} {xs : List Value} (h : Tab W b m sv l) (hr : W.ownsRow base 3 1 v n xs) : ∀ k, v.ownBlock = some k → ¬ Fp b m sv k := by
  intro k hk hf
  rcases hr.2 with ⟨rfl, _⟩ | ⟨g, cap, cur, rfl, _, h2, _⟩
  · cases hk
  · cases hk
    rcases hf with e | e | e
    · subst e; rw [h.blk] at h2; simp at h2
    · rcases h.map with ⟨e0, _⟩ | ⟨mb, d, e0, ⟨es, c, ho, _⟩, _⟩
      · rw [e0] at e; cases e
      · rw [e0] at e; cases e; rw [ho] at h2; cases h2
    · rcases h.row.2 with ⟨rfl, _⟩ | ⟨g', cap', cur', rfl, _, h3, _⟩
      · cases e
      · cases e; rw [h3] at h2; simp at h2
theorem row3_of_block {W W' : World} {base : Nat} {v : Value} {n : Nat} {xs : List Value} (h : W.ownsRow base 3 1 v n xs) (hb : ∀ k, v.ownBlock = some k → W'.heap[k]? = W.heap[k]?) : W'.ownsRow base 3 1 v n xs := by
  refine ⟨h.1, ?_⟩
  rcases h.2 with h0 | ⟨g, cap, cur, rfl, h1, h2, h3⟩
  · exact .inl h0
  · exact .inr ⟨g, cap, cur, rfl, h1, (hb g rfl).trans h2, h3⟩
theorem put_r {w0 W : World} {b : Nat} {l : List ByteArray} {base n : Nat} {v : Value} {xs : List Value} (s : ByteArray) (h : Own w0 W b l) (hr : W.ownsRow base 3 1 v n xs) :
    Calls Try.prog 14 #[pt b, .string s] W fun e W' => e = .returned (.tuple #[.int .i64 (putN l s), .int .i64 (putE l s)]) ∧ Own w0 W' b (putL l s) ∧ W'.ownsRow base 3 1 v n xs := by
  obtain ⟨m, sv, ht, hf, hg⟩ := h
  refine (put_c W b m sv l s ht).mono fun e W' ⟨he, ha⟩ => ⟨he, ha.own hf hg, ?_⟩
  obtain ⟨_, _, _, hg2, _⟩ := ha
  exact row3_of_block hr (fun k hk => hg2.block k (hr.lt k hk).2 (row3_not ht hr k hk))
theorem Own.grown3 {w0 X X' : World} {b : Nat} {l : List ByteArray} {v : Value} {n : Nat} {xs : List Value} (h : Own w0 X b l) (hr : X.ownsRow w0.heap.size 3 1 v n xs) (hg : X.grownBy X' v.ownBlock) : Own w0 X' b l := by
  obtain ⟨m, sv, ht, hf, hg0⟩ := h
  have g : Gr (fun k => v.ownBlock = some k) X X' := Gr.of_grown hg (fun k e => e)
  exact ⟨m, sv, ht.gr g (fun k hk e => row3_not ht hr k e hk), hf, hg0.trans' g (fun i hi e => by have := (hr.lt i e).1; omega)⟩
theorem Own.cell {w0 X : World} {b : Nat} {l : List ByteArray} (h : Own w0 X b l) (p : Addr) (hp : p.block < w0.heap.size) : X.cell? p = w0.cell? p := by
  obtain ⟨_, _, _, _, hg⟩ := h
  exact World.cell?_of_block (hg.block _ hp (fun e => e))
theorem info3 : (Try.prog.info? 3).map (fun i => (i.zero, i.size, i.bytes)) = some (some (.int .i64 0), 1, 8) := by kernel_rfl
end Go.Proofs.Ytipdniiamaaolaa
