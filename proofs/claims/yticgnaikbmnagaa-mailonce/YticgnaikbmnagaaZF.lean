/-
  slices.Delete of one term.
-/
import Derived.Test.YticgnaikbmnagaaZE
set_option linter.unusedVariables false
set_option linter.unusedSimpArgs false
namespace Go.Proofs.Yticgnaikbmnagaa
open Go.RowKit Go.Maps
attribute [local go_sem] Oper.semAt_some
variable {S S' : Nat → Prop} {W W1 W' : World}
section
variable {w : World} {ops : Array Oper} {rest : List Oper} {o : Oper} {a : Act} {Q : Exit → Act → World → Prop} {K : Act → World → Prop} {E : Prop}
theorem step_room (hgd : o.guard = none) (x y : Operand)
    (ho : o.op = .call { callee := .builtin .append, args := #[x, y], argTypes := #[33, 33] }) (g i c j m c2 : Nat) (cur : Array Value) (news : List Value) (hx : a.eval x = .slice (some ⟨g, 0, none⟩) i c) (hy : a.eval y = .slice (some ⟨g, j, none⟩) m c2)
    (hg : w.heap[g]? = some (.cells cur 35 (0, 0))) (hl : news.length = m * 9) (hnews : ∀ q u, news[q]? = some u → w.cell? ⟨g, j + q, none⟩ = some u) (h1 : ∀ u ∈ news, u.oneCell' = true) (hroom : i + m ≤ c) (hfit : i * 9 + news.length ≤ cur.size)
    (h : K (a.put o.dst (.slice (some ⟨g, 0, none⟩) (i + m) c)) (w.setRow g (cur.toList.take (i * 9) ++ news ++ cur.toList.drop (i * 9 + news.length)).toArray)) :
    if Region.wanted o (yielded ops a.tmps) = true then Oper.wp Try.prog o a w K Q else E := by
  have hw : Region.wanted o (yielded ops a.tmps) = true := by simp [Region.wanted, hgd]
  rw [if_pos hw]
  obtain ⟨i0, hi, hz0, hz1, hz2⟩ := info_parts info31
  have hr := run_append_room (P := Try.prog) w 33 o.type 35 i0 Try.underlying33 hi g i c cur hg ⟨g, j, none⟩ m c2 news (by rw [hz1]; exact hl) (fun q u hu => by rw [Addr.add_lit]; exact hnews q u hu) h1 hroom (by rw [hz1]; exact hfit)
  rw [hz1] at hr
  unfold Oper.wp execOp
  simp only [ho, resolve, invoke, builtin, Sem.run_bind, Sem.run_pure, Result.andThen_ok, List.map_toArray, List.map_cons, List.map_nil, hx, hy, hr]
  exact h
end
set_option maxRecDepth 20000 in
set_option maxHeartbeats 1600000 in
theorem del_c (W : World) (g n c i : Nat) (cur : Array Value) (xs : List Value) (hg : W.heap[g]? = some (.cells cur 35 (0, 0))) (hnc : n ≤ c) (hcm : c ≤ maxLen) (hcs : cur.size = c * 9) (htk : cur.toList.take (n * 9) = xs) (hx : xs.length = n * 9) (h1 : ∀ u ∈ xs, u.oneCell' = true) (hi : i < n) (hn : n ≤ 1000) :
    Calls Try.prog 26 #[.slice (some ⟨g, 0, none⟩) n c, .int .i64 (i : Int), .int .i64 ((i : Int) + 1)] W fun e w' => e = .returned (.slice (some ⟨g, 0, none⟩) (n - 1) c) ∧ (∃ cur', w'.heap[g]? = some (.cells cur' 35 (0, 0)) ∧ cur'.size = c * 9 ∧ cur'.toList.take ((n - 1) * 9) = xs.take (i * 9) ++ xs.drop ((i + 1) * 9)) ∧ Gr (fun k => k = g) W w' := by
  have hiI : (i : Int) < (n : Int) := by omega
  have hi0 : (0 : Int) ≤ (i : Int) := by omega
  have hi1 : (i : Int) + 1 ≤ (n : Int) := by omega
  have hncI : (n : Int) ≤ (c : Int) := by omega
  have hne : ((i : Int) == (i : Int) + 1) = false := by simp; omega
  have hnI : (n : Int) ≤ 1000 := by omega
  have hgl := (Array.getElem?_eq_some_iff.1 hg).1
  have hin : i + 1 ≤ n := hi
  have hicp : i ≤ c := by omega
  have hicq : i + 1 ≤ c := by omega
  go_enter Try.func26, Try.ntmps26
  go_wp2_with fail
  obtain ⟨J, hJ, hJ2⟩ : ∃ J, (if c = i + 1 then (some ⟨g, 0, none⟩ : Option Addr) else some ⟨g, (i + 1) * 9, none⟩) = some ⟨g, J, none⟩ ∧ (c ≠ i + 1 → J = (i + 1) * 9) := by
    split
    · exact ⟨0, rfl, fun h => absurd ‹_› h⟩
    · exact ⟨_, rfl, fun _ => rfl⟩
  have hi2 : (0 : Int) ≤ (i : Int) + 1 := by omega
  refine wp_region_L (L := 99) (T := fun _ => True) (by kernel_rfl) ?_
  refine wpAnyN_at (i := 0) (v := (.slice (some ⟨g, 0, none⟩) n c)) (some 20) rfl rfl (by kernel_rfl) (by kernel_rfl) (by kernel_rfl) rfl (fun _ _ _ h => h) (Or.inl ⟨by rfl, ?_⟩) trivial ?_
  · intro w hSw
    go_simp
    try simp [hicp, hicq, hin, hnc, hJ, hi2]
  try simp only [Act.put, List.setIfInBounds_toArray, List.set_cons_zero, List.set_cons_succ]
  refine wpAnyN_at (i := 1) (v := (.int .i64 (i : Int))) (some 21) rfl rfl (by kernel_rfl) (by kernel_rfl) (by kernel_rfl) rfl (fun _ _ _ h => h) (Or.inl ⟨by rfl, ?_⟩) trivial ?_
  · intro w hSw
    go_simp
    try simp [hicp, hicq, hin, hnc, hJ, hi2]
  try simp only [Act.put, List.setIfInBounds_toArray, List.set_cons_zero, List.set_cons_succ]
  refine wpAnyN_at (i := 2) (v := (.slice (some ⟨g, 0, none⟩) i c)) (some 22) rfl rfl (by kernel_rfl) (by kernel_rfl) (by kernel_rfl) rfl (fun _ _ _ h => h) (Or.inl ⟨by rfl, ?_⟩) trivial ?_
  · intro w hSw
    go_simp
    try simp [hicp, hicq, hin, hnc, hJ, hi2]
  try simp only [Act.put, List.setIfInBounds_toArray, List.set_cons_zero, List.set_cons_succ]
  refine wpAnyN_at (i := 3) (v := (.slice (some ⟨g, 0, none⟩) n c)) (some 23) rfl rfl (by kernel_rfl) (by kernel_rfl) (by kernel_rfl) rfl (fun _ _ _ h => h) (Or.inl ⟨by rfl, ?_⟩) trivial ?_
  · intro w hSw
    go_simp
    try simp [hicp, hicq, hin, hnc, hJ, hi2]
  try simp only [Act.put, List.setIfInBounds_toArray, List.set_cons_zero, List.set_cons_succ]
  refine wpAnyN_at (i := 4) (v := (.int .i64 ((i : Int) + 1))) (some 24) rfl rfl (by kernel_rfl) (by kernel_rfl) (by kernel_rfl) rfl (fun _ _ _ h => h) (Or.inl ⟨by rfl, ?_⟩) trivial ?_
  · intro w hSw
    go_simp
    try simp [hicp, hicq, hin, hnc, hJ, hi2]
  try simp only [Act.put, List.setIfInBounds_toArray, List.set_cons_zero, List.set_cons_succ]
  refine wpAnyN_at (i := 5) (v := (.slice (some ⟨g, J, none⟩) (n - (i + 1)) (c - (i + 1)))) (some 25) rfl rfl (by kernel_rfl) (by kernel_rfl) (by kernel_rfl) rfl (fun _ _ _ h => h) (Or.inl ⟨by rfl, ?_⟩) trivial ?_
  · intro w hSw
    go_simp
    try simp [hicp, hicq, hin, hnc, hJ, hi2]
  try simp only [Act.put, List.setIfInBounds_toArray, List.set_cons_zero, List.set_cons_succ]
  have hd : (xs.drop ((i + 1) * 9)).length = (n - (i + 1)) * 9 := by rw [List.length_drop, hx]; omega
  have hcl : cur.toList.length = c * 9 := by rw [Array.length_toList, hcs]
  have hgd : W.drew.heap[g]? = some (.cells cur 35 (0, 0)) := hg
  refine wpAnyL_one (i := 6) (by kernel_rfl) rfl (fun K hK => ?_)
  refine step_room rfl (.tmp 22) (.tmp 25) rfl g i c J (n - (i + 1)) (c - (i + 1)) cur (xs.drop ((i + 1) * 9)) rfl rfl hgd hd (fun q u hu => ?_) (fun u hu => h1 u (List.mem_of_mem_drop hu)) (by omega) (by rw [hd, hcs]; omega) ?_
  · rw [List.getElem?_drop] at hu
    have hq : (i + 1) * 9 + q < n * 9 := by have := (List.getElem?_eq_some_iff.1 hu).1; omega
    rw [← htk, List.getElem?_take_of_lt hq] at hu
    rw [hJ2 (by omega)]
    simp only [World.cell?, hgd]
    simpa using hu
  obtain ⟨cur2, hc2⟩ : ∃ cur2, cur2 = (cur.toList.take (i * 9) ++ xs.drop ((i + 1) * 9) ++ cur.toList.drop (i * 9 + (xs.drop ((i + 1) * 9)).length)).toArray := ⟨_, rfl⟩
  rw [← hc2]
  have hti : cur.toList.take (i * 9) = xs.take (i * 9) := by rw [← htk, List.take_take]; congr 1; omega
  have hs2 : cur2.size = c * 9 := by
    rw [hc2, List.size_toArray, List.length_append, List.length_append, List.length_take, List.length_drop (l := cur.toList), hcl, hd]; omega
  have ht2 : cur2.toList.take ((n - 1) * 9) = xs.take (i * 9) ++ xs.drop ((i + 1) * 9) := by
    rw [hc2, List.toList_toArray, hti, List.take_append_of_le_length (by rw [List.length_append, hd, List.length_take, hx]; omega), List.take_of_length_le (by rw [List.length_append, hd, List.length_take, hx]; omega)]
  have hg2 := setRow_heap W.drew g cur cur2 35 (0, 0) hgd
  have G2 : Gr (fun k => k = g) W (W.drew.setRow g cur2) := (Gr.drew W _).trans ⟨rfl, rfl, rfl, by simp, fun k _ hk => setRow_other _ _ _ _ hk⟩
  rw [show i + (n - (i + 1)) = n - 1 by omega]
  generalize W.drew.setRow g cur2 = X2 at hg2 G2 ⊢
  have HT2 := Lib.hid ht2
  clear hc2 ht2 hti
  refine hK.out _ _ (fun _ => trivial) ?_
  clear hK K
  try simp only [Act.put, List.setIfInBounds_toArray, List.set_cons_zero, List.set_cons_succ]
  refine wpAnyL_one (i := 7) (by kernel_rfl) rfl (fun K hK => ?_)
  go_simp
  refine hK.out _ _ (fun _ => trivial) ?_
  clear hK K
  try simp only [Act.put, List.setIfInBounds_toArray, List.set_cons_zero, List.set_cons_succ]
  refine wpAnyL_done (by kernel_rfl) ?_ _
  refine NoPanic.normal ?_
  have hcl9 := fun ty => run_clear9 X2 ty g ((n - 1) * 9) (c - (n - 1)) cur2 hg2 (by rw [hs2]; omega)
  have hn1 : ((n - 1 : Nat) : Int) ≤ (n : Int) := by omega
  have hn1c : n - 1 ≤ n := by omega
  have hn1d : n - (n - 1) = 1 := by omega
  go_wp2_with fail
  have hG3 : ∀ cs, Gr (fun k => k = g) X2 (X2.setRow g cs) := fun cs => ⟨rfl, rfl, rfl, by simp, fun k _ hk => setRow_other _ _ _ _ hk⟩
  refine bodyPost_ret (v := .slice (some ⟨g, 0, none⟩) (n - 1) c) (by simp [results, Try.results26, go_sem]) rfl ⟨rfl, ⟨_, setRow_heap X2 g cur2 _ 35 (0, 0) hg2, ?_, ?_⟩, G2.trans (hG3 _)⟩
  · have h2 : cur2.toList.length = c * 9 := by rw [Array.length_toList, hs2]
    have h3 : (cellsOf zt).length = 9 := rfl
    simp only [List.size_toArray, List.length_append, List.length_take, List.length_drop, h2, h3]
    omega
  · have h2 : (cur2.toList.take ((n - 1) * 9)).length = (n - 1) * 9 := by rw [List.length_take, Array.length_toList, hs2]; omega
    rw [← HT2.out]
    simp only [List.toList_toArray, List.append_assoc]
    rw [List.take_append_of_le_length (by rw [h2]; omega), List.take_of_length_le (by rw [h2]; omega)]
end Go.Proofs.Yticgnaikbmnagaa
