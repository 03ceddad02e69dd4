/-
  Two texts one behind the other, a line's end between: what is parsed (pure).
-/
import Derived.Test.YtbmbgnmkakkpfaaDoorHD
import Derived.Test.YtbmbgnmkakkpfaaDoorO
set_option linter.unusedVariables false
set_option linter.unusedSimpArgs false
namespace Go.Proofs.YtbmbgnmkakkpfaaDoor
theorem scb_full {s : ByteArray} {i : Nat} {l : List Tok} (h : i < s.size) (hl : l.length = 4000) : scb s i l = .error (i, 155) := by rw [scb, scn, if_pos h, if_pos hl]
theorem Jn.go3 {a b u : ByteArray} (h : Jn a b u) (x : List Tok) (y : List Tok) (hx : x.length ≤ 4000) (hxy : 4000 < x.length + y.length) : ∀ (m i : Nat) (l : List Tok), b.size < m + i → i ≤ b.size → x.length + l.length ≤ 4000 → scb b i l = .ok y → ∃ j, scb u (a.size + 1 + i) (x ++ l.map (mv (a.size + 1))) = .error (j, 155)
  | 0, i, l, hm, hi, hl0, hx => by omega
  | m + 1, i, l, hm, hi, hl0, hx => by
    have hz := h.size
    by_cases hlt : i < b.size
    · by_cases hfull : x.length + l.length = 4000
      · exact ⟨_, scb_full (by omega) (by simp; omega)⟩
      · obtain ⟨hl, t, j, ht, hx2⟩ := scb_ok hlt hx
        obtain ⟨o1, o2, o3, o4⟩ := tokV_ok hlt ht
        have hsh : Sh u (a.size + 1 + i) b i (j - i) := fun k hk => by rw [Nat.add_assoc]; exact h.snd (i + k)
        have hst : Stp (pk u (a.size + 1 + i + (j - i))) (pk b j) := .inl (by rw [show a.size + 1 + i + (j - i) = a.size + 1 + j by omega]; exact h.snd j)
        have ht2 := tok_sh hlt ht hsh hst
        rw [show a.size + 1 + i + (j - i) = a.size + 1 + j by omega] at ht2
        rw [scb_tok (by omega) (by simp; omega) ht2, h.skp2 j false]
        have := h.go3 x y (by omega) hxy m (skp b j false) (l ++ [t]) (by have := skp_ge b j false; omega) (skp_le false o2) (by simp; omega) hx2
        obtain ⟨j', hj'⟩ := this
        refine ⟨j', ?_⟩
        rw [← hj']
        congr 1
        simp [mv, o3]
    · rw [scb_end (by omega)] at hx
      cases hx
      omega
theorem joined_many {a b u : ByteArray} (h : Jn a b u) (x y : List Tok) (hx : scanV a = .ok x) (hy : scanV b = .ok y) (hz : a.size + b.size + 1 ≤ 16384) (hl : 4000 < x.length + y.length) : ∃ j, scanV u = .error (j, 155) := by
  have hs := h.size
  have hxl := scanV_len hx
  rw [scanV_scb (by omega)] at hx hy ⊢
  rw [h.skp1 0 false (Nat.zero_le _), h.go1 (a.size + 1) (skp a 0 false) [] x (by omega) (skp_le false (Nat.zero_le _)) hx]
  have := h.skp2 0 false
  rw [Nat.add_zero] at this
  rw [this]
  have g := h.go3 x y hxl hl (b.size + 1) (skp b 0 false) [] (by omega) (skp_le false (Nat.zero_le _)) (by simpa using hxl) hy
  simpa using g
theorem jn_mk (a b : ByteArray) : Jn a b (a ++ ⟨#[10]⟩ ++ b) := by
  have hsz : (a ++ ⟨#[10]⟩ ++ b).size = a.size + 1 + b.size := by simp [ByteArray.size_append]; rfl
  have hd : (a ++ ⟨#[10]⟩ ++ b).data = a.data ++ #[10] ++ b.data := by simp [ByteArray.data_append]
  refine ⟨hsz, fun k hk => ?_, ?_, fun k => ?_⟩
  · rw [pk_lt_size (by omega), pk_lt_size hk]
    unfold bt
    rw [hd, Array.append_assoc, Array.getElem?_append_left hk]
  · rw [pk_lt_size (by omega)]
    unfold bt
    rw [hd, Array.append_assoc]
    show (((a.data ++ (#[10] ++ b.data))[a.data.size]?.getD 0).toNat : Int) = 10
    rw [Array.getElem?_append_right (Nat.le_refl _), Nat.sub_self, Array.getElem?_append_left (show 0 < (#[10] : Array UInt8).size from Nat.zero_lt_one)]
    rfl
  · by_cases hk : k < b.size
    · rw [pk_lt_size (by omega), pk_lt_size hk]
      unfold bt
      rw [hd, Array.getElem?_append_right (by simp)]
      have : a.size + 1 + k - (a.data ++ #[10]).size = k := by simp
      rw [this]
    · rw [pk, if_neg (by omega), pk, if_neg hk]
theorem text_ok {s : ByteArray} {T : Tr} (h : textV s = .ok T) : ∃ l, scanV s = .ok l ∧ parseV (l.map tnOf) = .ok T := by
  unfold textV at h
  cases hv : scanV s with
  | error p => rw [hv] at h; cases h
  | ok l => rw [hv] at h; exact ⟨l, rfl, h⟩
theorem pk_app1 {ts us : List Tn} {p : Ps} (h : p.i < ts.length) : pkT (ts ++ us) p = pkT ts p := by
  unfold pkT
  rw [List.getElem?_append_left h]
theorem pk_app2 {ts us vs : List Tn} {p : Ps} (hu : ∀ i : Nat, Eqv (us[i]?.getD tn0) (vs[i]?.getD tn0)) : Eqv (pkT (ts ++ us) (p.sh ts.length)) (pkT vs p) := by
  unfold pkT
  by_cases he : p.e = 0
  · rw [if_pos he, if_pos (show (p.sh ts.length).e = 0 from he)]
    show Eqv ((ts ++ us)[ts.length + p.i]?.getD tn0) _
    rw [List.getElem?_append_right (by omega), show ts.length + p.i - ts.length = p.i by omega]
    exact hu p.i
  · rw [if_neg he, if_neg (show ¬ (p.sh ts.length).e = 0 from he)]
    exact Eqv.refl _
/-- Two texts that are parsed, one behind the other. -/
theorem text_join {a b : ByteArray} {T U : Tr} (ha : textV a = .ok T) (hb : textV b = .ok U) (hz : a.size + b.size + 1 ≤ 16384) :
    textV (a ++ ⟨#[10]⟩ ++ b) = .error (0, 155) ∨ ∃ l1 l2, T = .mk 18 e0 0 [] l1 ∧ U = .mk 18 e0 0 [] l2 ∧ textV (a ++ ⟨#[10]⟩ ++ b) = .ok (.mk 18 e0 0 [] (l1 ++ l2)) := by
  obtain ⟨x, hx, hp⟩ := text_ok ha
  obtain ⟨y, hy, hq⟩ := text_ok hb
  have hj := jn_mk a b
  by_cases hl : x.length + y.length ≤ 4000
  · right
    have hsc := joined hj x y hx hy hz hl
    have e1 : (x ++ y.map (mv (a.size + 1))).map tnOf = x.map tnOf ++ (y.map (mv (a.size + 1))).map tnOf := List.map_append
    obtain ⟨l1, l2, h1, h2, h3⟩ := parse_join (ts1 := x.map tnOf) (ts2 := y.map tnOf) (ts' := x.map tnOf ++ (y.map (mv (a.size + 1))).map tnOf) (scanV_plain hx) (scanV_plain hy) hp hq
      (fun h0 => ⟨fun p hp => by rw [sh0, pk_app1 (by omega)]; exact Eqv.refl _, by simp⟩)
      ⟨fun p _ => pk_app2 (fun i => by
        rw [List.map_map, List.getElem?_map, List.getElem?_map]
        cases y[i]? with
        | none => exact Eqv.refl _
        | some t => exact ⟨rfl, rfl, rfl, rfl⟩), by simp⟩ (by simp)
    refine ⟨l1, l2, h1, h2, ?_⟩
    rw [textV, hsc]
    show parseV ((x ++ y.map (mv (a.size + 1))).map tnOf) = _
    rw [e1, h3]
  · left
    obtain ⟨j, hj'⟩ := joined_many hj x y hx hy hz (by omega)
    rw [textV, hj']
end Go.Proofs.YtbmbgnmkakkpfaaDoor
