/-
  The texts and rows of a parsed tree are small (pure); GramYields' walk.
-/
import Derived.Test.YtbmbgnmkakkpfaaDoorHB
set_option linter.unusedVariables false
set_option linter.unusedSimpArgs false
namespace Go.Proofs.YtbmbgnmkakkpfaaDoor
section
variable {ts : List Tn} {B N : Nat}
def smT (B N : Nat) : Tr → Prop
  | .mk _ s _ _ l => s.size ≤ B ∧ l.length ≤ N
def SmL (B N : Nat) (l : List Tr) : Prop := ∀ U ∈ preL l, smT B N U
theorem sm_nil : SmL B N [] := fun U h => by rw [preL_nil] at h; cases h
theorem sm_app {a r : List Tr} (h1 : SmL B N a) (h2 : SmL B N r) : SmL B N (a ++ r) := fun U h => by
  rw [preL_app] at h
  rcases List.mem_append.1 h with h | h
  · exact h1 U h
  · exact h2 U h
theorem sm_node {k : Int} {s : ByteArray} {n : Int} {b : List Int} {l : List Tr} (hs : s.size ≤ B) (hl : l.length ≤ N) (h : SmL B N l) : SmL B N [.mk k s n b l] := fun U hU => by
  rw [preL_cons, preL_nil, List.append_nil] at hU
  rcases List.mem_cons.1 hU with rfl | hU
  · exact ⟨hs, hl⟩
  · exact h U hU
theorem sm_two {T U : Tr} (h1 : SmL B N [T]) (h2 : SmL B N [U]) : SmL B N [T, U] := sm_app (a := [T]) h1 h2
def SmR (B N : Nat) (g : Rule) : Prop := ∀ p, SmL B N [(g p).1]
def SmQ (B N M : Nat) (g : Ps → List Tr × Ps) : Prop := ∀ p, SmL B N (g p).1 ∧ (g p).1.length ≤ M
theorem e0_sz : e0.size ≤ B := Nat.zero_le _
theorem sm_tr0 : SmL B N [tr0] := sm_node e0_sz (Nat.zero_le _) sm_nil
theorem pk_sz (hT : ∀ t ∈ ts, t.s.size ≤ B) (p : Ps) : (pkT ts p).s.size ≤ B := by
  unfold pkT
  split
  · cases h : ts[p.i]? with
    | none => exact e0_sz
    | some t => exact hT t (List.mem_of_getElem? h)
  · exact e0_sz
theorem name_sz (hT : ∀ t ∈ ts, t.s.size ≤ B) (k : Int) (p : Ps) : (nameV ts k p).1.size ≤ B := by
  unfold nameV
  split
  · exact pk_sz hT p
  · exact e0_sz
theorem sevL_sm (s : ByteArray) {g : Rule} (hg : SmR B N g) : ∀ (f : Nat) (l : List Tr) (p : Ps), SmL B N l → SmL B N (sevL ts s g f l p).1 ∧ (sevL ts s g f l p).1.length ≤ l.length + f
  | 0, l, p, h => ⟨h, Nat.le_refl _⟩
  | f + 1, l, p, h => by
    rw [sevL]
    split
    · obtain ⟨h1, h2⟩ := sevL_sm s hg f (l ++ [(g p.next).1]) (g p.next).2 (sm_app h (hg _))
      refine ⟨h1, ?_⟩
      rw [List.length_append, List.length_singleton] at h2
      omega
    · exact ⟨h, Nat.le_add_right _ _⟩
theorem sev_sm (s : ByteArray) {g : Rule} (hg : SmR B N g) : SmQ B N (ts.length + 1) (sevV ts s g) := fun p => by
  obtain ⟨h1, h2⟩ := sevL_sm (ts := ts) s hg ts.length [(g p).1] (g p).2 (hg p)
  exact ⟨h1, by rw [List.length_singleton] at h2; show (sevL ts s g ts.length [(g p).1] (g p).2).1.length ≤ _; omega⟩
theorem upto_sm (en : ByteArray) {g : Rule} (hg : SmR B N g) : SmQ B N (ts.length + 1) (uptoV ts en g) := fun p => by
  unfold uptoV
  split
  · exact ⟨sm_nil, Nat.zero_le _⟩
  · exact sev_sm cma hg p
variable (hT : ∀ t ∈ ts, t.s.size ≤ B) (hN : 2 * ts.length + 9 ≤ N)
theorem var_sm (hT : ∀ t ∈ ts, t.s.size ≤ B) : SmR B N (varV ts) := fun p => sm_node (name_sz hT 3 p) (Nat.zero_le _) sm_nil
theorem arrow_sm (hN : 2 * ts.length + 9 ≤ N) {ex : Rule} (hx : SmR B N ex) : SmR B N (arrowV ts ex) := fun p => by
  obtain ⟨h1, h2⟩ := sev_sm (ts := ts) cma hx (wantV ts arw p)
  exact sm_node e0_sz (by omega) h1
theorem deeper_sm {g : Rule} (hg : SmR B N g) : SmR B N (deeperV g) := fun p => by
  unfold deeperV
  split
  · exact sm_tr0
  · exact hg _
theorem clause_sm (hN : 2 * ts.length + 9 ≤ N) {ex un : Rule} (hx : SmR B N ex) (hu : SmR B N un) : SmR B N (clauseV ts ex un) := fun p =>
  sm_node e0_sz (show 2 ≤ N by omega) (sm_two (hu p) (arrow_sm hN hx _))
theorem choice_sm (hN : 2 * ts.length + 9 ≤ N) {ex un : Rule} (hx : SmR B N ex) (hu : SmR B N un) : SmR B N (choiceV ts ex un) := fun p => by
  obtain ⟨h1, h2⟩ := sev_sm (ts := ts) sem (clause_sm hN hx hu) (wantV ts wOf (ex p).2)
  refine sm_node e0_sz ?_ (sm_app (hx p) h1)
  rw [List.length_append, List.length_singleton]
  omega
theorem recv_sm (hN : 2 * ts.length + 9 ≤ N) {ex un : Rule} (hx : SmR B N ex) (hu : SmR B N un) : SmR B N (recvV ts ex un) := fun p => by
  have hc : SmL B N (rclV ts ex un p).1 ∧ (rclV ts ex un p).1.length ≤ ts.length + 1 := by
    unfold rclV
    split
    · exact ⟨sm_nil, Nat.zero_le _⟩
    · exact sev_sm sem (clause_sm hN hx hu) p
  generalize hq : rclV ts ex un p = q at hc
  have hr : SmL B N (raftV ts ex q).1 ∧ (raftV ts ex q).1.length ≤ ts.length + 2 := by
    unfold raftV
    split
    · refine ⟨sm_app hc.1 (sm_node e0_sz (show 2 ≤ N by omega) (sm_two (hx _) (arrow_sm hN hx _))), ?_⟩
      show (q.1 ++ [_]).length ≤ _
      rw [List.length_append, List.length_singleton]
      omega
    · exact ⟨hc.1, by omega⟩
  unfold recvV
  rw [hq]
  exact sm_node e0_sz (by omega) hr.1
theorem row_sm (hN : 2 * ts.length + 9 ≤ N) {ex : Rule} (hx : SmR B N ex) (k : Int) (en nm : ByteArray) (hs : nm.size ≤ B) (p : Ps) : SmL B N [.mk k nm 0 [] (uptoV ts en ex p).1] := by
  obtain ⟨h1, h2⟩ := upto_sm (ts := ts) en hx p
  exact sm_node hs (by omega) h1
theorem atom_sm (hT : ∀ t ∈ ts, t.s.size ≤ B) (hN : 2 * ts.length + 9 ≤ N) {ex : Rule} (hx : SmR B N ex) : SmR B N (atomV ts ex) := fun p => by
  unfold atomV
  split
  · exact deeper_sm (g := callV ts (nameV ts 2 p).1 ex) (fun q => row_sm hN hx 11 shutR _ (name_sz hT 2 p) q) _
  · exact sm_node (name_sz hT 2 p) (Nat.zero_le _) sm_nil
theorem nest_sm (hN : 2 * ts.length + 9 ≤ N) {ex un : Rule} (hx : SmR B N ex) (hu : SmR B N un) : SmR B N (nestV ts ex un) := fun p => by
  unfold nestV
  split
  · exact deeper_sm (g := bracketV ts ex) (fun q => hx q) _
  split
  · exact deeper_sm (g := tupleV ts ex) (fun q => row_sm hN hx 5 shut5 _ e0_sz q) _
  split
  · exact deeper_sm (g := listV ts ex) (fun q => row_sm hN hx 6 shut6 _ e0_sz q) _
  split
  · exact deeper_sm (choice_sm hN hx hu) _
  split
  · exact deeper_sm (recv_sm hN hx hu) _
  · exact sm_tr0
theorem prim_sm (hT : ∀ t ∈ ts, t.s.size ≤ B) (hN : 2 * ts.length + 9 ≤ N) {ex un : Rule} (hx : SmR B N ex) (hu : SmR B N un) : SmR B N (primV ts ex un) := fun p => by
  unfold primV
  split
  · exact sm_node e0_sz (Nat.zero_le _) sm_nil
  split
  · exact sm_node e0_sz (Nat.zero_le _) sm_nil
  split
  · exact var_sm hT p
  split
  · exact atom_sm hT hN hx p
  · exact nest_sm hN hx hu p
theorem unary_sm (hT : ∀ t ∈ ts, t.s.size ≤ B) (hN : 2 * ts.length + 9 ≤ N) {ex un : Rule} (hx : SmR B N ex) (hu : SmR B N un) : SmR B N (unaryV ts ex un) := fun p => by
  unfold unaryV
  split
  · exact sm_node e0_sz (show 1 ≤ N by omega) (deeper_sm hu p)
  · exact prim_sm hT hN hx hu p
theorem joinL_sm (hT : ∀ t ∈ ts, t.s.size ≤ B) (hN : 2 * ts.length + 9 ≤ N) {g : Rule} (hg : SmR B N g) (sg : List ByteArray) : ∀ (f : Nat) (t : Tr) (p : Ps), SmL B N [t] → SmL B N [(joinL ts sg g f t p).1]
  | 0, t, p, h => h
  | f + 1, t, p, h => by
    rw [joinL]
    split
    · exact joinL_sm hT hN hg sg f _ _ (sm_node (pk_sz hT p) (show 2 ≤ N by omega) (sm_two h (hg _)))
    · exact h
theorem join_sm (hT : ∀ t ∈ ts, t.s.size ≤ B) (hN : 2 * ts.length + 9 ≤ N) {g : Rule} (hg : SmR B N g) (sg : List ByteArray) (f : Nat) : SmR B N (joinV ts sg g f) := fun p => joinL_sm hT hN hg sg f _ _ (hg p)
theorem expr_sm (hN : 2 * ts.length + 9 ≤ N) {ex jn : Rule} (hx : SmR B N ex) (hj : SmR B N jn) : SmR B N (exprV ts ex jn) := fun p => by
  unfold exprV
  split
  · exact sm_node e0_sz (show 2 ≤ N by omega) (sm_two (hj p) (deeper_sm hx _))
  split
  · exact sm_node e0_sz (show 2 ≤ N by omega) (sm_two (hj p) (deeper_sm hx _))
  · exact hj p
theorem exun_sm (hT : ∀ t ∈ ts, t.s.size ≤ B) (hN : 2 * ts.length + 9 ≤ N) : ∀ m, SmR B N (exun ts m).1 ∧ SmR B N (exun ts m).2
  | 0 => ⟨fun _ => sm_tr0, fun _ => sm_tr0⟩
  | m + 1 => by
    obtain ⟨h1, h2⟩ := exun_sm hT hN m
    have hu := unary_sm hT hN h1 h2
    exact ⟨expr_sm hN h1 (join_sm hT hN (join_sm hT hN (join_sm hT hN hu _ _) _ _) _ _), hu⟩
theorem fun_sm (hT : ∀ t ∈ ts, t.s.size ≤ B) (hN : 2 * ts.length + 9 ≤ N) {ex : Rule} (hx : SmR B N ex) : SmR B N (funV ts ex) := fun p => by
  obtain ⟨h1, h2⟩ := upto_sm (ts := ts) shutR (var_sm (ts := ts) (N := N) hT) (wantV ts opn (nameV ts 2 p).2)
  refine sm_node (name_sz hT 2 p) ?_ (sm_app h1 (arrow_sm hN hx _))
  show ((uptoV ts shutR (varV ts) (wantV ts opn (nameV ts 2 p).2)).1 ++ [_]).length ≤ N
  rw [List.length_append, List.length_singleton]
  omega
theorem progL_sm (hT : ∀ t ∈ ts, t.s.size ≤ B) (hN : 2 * ts.length + 9 ≤ N) {ex : Rule} (hx : SmR B N ex) : ∀ (f : Nat) (l : List Tr) (p : Ps), SmL B N l → SmL B N (progL ts ex f l p).1 ∧ (progL ts ex f l p).1.length ≤ l.length + f
  | 0, l, p, h => ⟨h, Nat.le_refl _⟩
  | f + 1, l, p, h => by
    rw [progL]
    split
    · obtain ⟨h1, h2⟩ := progL_sm hT hN hx f (l ++ [(funV ts ex p).1]) (funV ts ex p).2 (sm_app h (fun_sm hT hN hx p))
      refine ⟨h1, ?_⟩
      rw [List.length_append, List.length_singleton] at h2
      omega
    · exact ⟨h, Nat.le_add_right _ _⟩
theorem parse_sm (hT : ∀ t ∈ ts, t.s.size ≤ B) {T : Tr} (h : parseV ts = .ok T) : SmL B (2 * ts.length + 9) [T] := by
  unfold parseV at h
  split at h
  · cases h
  · cases h
    obtain ⟨h1, h2⟩ := progL_sm hT (Nat.le_refl _) (exun_sm hT (Nat.le_refl _) 41).1 (2 * ts.length + 1) [] ⟨0, 0, 0⟩ sm_nil
    refine sm_node e0_sz ?_ h1
    rw [List.length_nil] at h2
    show (progL ts (exun ts 41).1 (2 * ts.length + 1) [] ⟨0, 0, 0⟩).1.length ≤ _
    omega
theorem scan_szs (s : ByteArray) (l : List Tok) (T : Tr) (hs : scanV s = .ok l) (hp : parseV (l.map tnOf) = .ok T) : Szs [T] := by
  obtain ⟨h1, h2⟩ := scanV_all hs
  have h := parse_sm (B := 60) (fun t ht => by obtain ⟨u, hu, rfl⟩ := List.mem_map.1 ht; exact (h1 u hu).1) hp
  intro U hU
  have hq := h U hU
  cases U with
  | mk k s n b q =>
    obtain ⟨q1, q2⟩ := hq
    rw [List.length_map] at q2
    exact ⟨by omega, by omega⟩
end
theorem yields_c (W : World) (s : ByteArray) (hE : Er W) (hS : Sg W) (hL : Lv W) : Calls Tryd.prog 4 #[.string s] W fun e w' => e = .returned (.bool true) ∧ Gr (fun _ => False) W w' := yields_walk scan_szs W s hE hS hL
end Go.Proofs.YtbmbgnmkakkpfaaDoor
