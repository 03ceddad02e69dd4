/-
  The reference's reader: the parts that hold no parts, put together.
  The reference's reader: a part, whatever the bytes.
-/
import Derived.Test.YtmohehfkbhllpaaGreatVI
import Derived.Test.YtmohehfkbhllpaaGreatVK
import Derived.Test.YtmohehfkbhllpaaGreatVL
import Derived.Test.YtmohehfkbhllpaaGreatKW
import Derived.Test.YtmohehfkbhllpaaGreatVO
import Derived.Test.YtmohehfkbhllpaaGreatVP
set_option linter.unusedVariables false
set_option linter.unusedSimpArgs false
namespace Go.Proofs.YtmohehfkbhllpaaGreat
open Go.RowKit Go.Maps
variable {S S' Z : Nat → Prop} {W W1 W' : World}
theorem part_leaf (p : List Int → Nat → List ByteArray → Except Int (Tm × List Int × Nat × List ByteArray)) (ba : Option Addr) (bc : Nat) (na : Option Addr) (nc : Nat) (m : List Int) (l : List ByteArray) (i n : Nat) (d : Int) (hi : i ≤ m.length) (hn : n ≤ 4096) (W : World) (hd : d ≤ 24) (x : Int) (hb : n < 4096) (hmx : m[i]? = some x) (hq : Sq Z W (.slice ba m.length bc) m) (hs : Snap W (.slice na l.length nc) l) (hl : l.length ≤ n) (h6 : x ≠ 6) (h7 : x ≠ 7) : Calls Tryz.prog 16 #[sv (.slice ba m.length bc) i n (.slice na l.length nc) 0, .int .i64 d] W fun e w' => (EndP ba bc m W e w' (knq p x (m.drop (i + 1)) (n + 1) l)) ∧ Gr (fun _ => False) W w' := by
  have hil : i < m.length := (List.getElem?_eq_some_iff.1 hmx).1
  by_cases h1 : x = 1
  · rcases hr : nmb 10 0 0 (m.drop (i + 1)) with c | ⟨u, r⟩
    · have h := part_1e ba bc na nc m l i n d hi hn W hd x hb hmx hq h1 c hr
      subst h1; simpa only [knq, if_true, hr] using h
    · cases hI : inR (unf (u : Int)) with
      | false =>
        have h := part_1n ba bc na nc m l i n d hi hn W hd x hb hmx hq h1 u r hr hI
        subst h1; simpa [knq, hr, hI] using h
      | true =>
        have h := part_1o ba bc na nc m l i n d hi hn W hd x hb hmx hq h1 u r hr hI hs hl
        subst h1; simpa [knq, hr, hI] using h
  by_cases h2 : x = 2
  · by_cases hsh : m.length < i + 1 + 16
    · have h := part_2s ba bc na nc m l i n d hi hn W hd x hb hmx hq h2 hsh
      subst h2
      rw [knq, if_neg (by decide), if_pos rfl, if_pos (by rw [List.length_drop]; omega)]
      exact h
    · cases hI : (rp (be ((m.drop (i + 1)).take 8)) && rp (be (((m.drop (i + 1)).drop 8).take 8))) with
      | false =>
        have h := part_2n ba bc na nc m l i n d hi hn W hd x hb hmx hq h2 (by omega) hI
        subst h2
        rw [knq, if_neg (by decide), if_pos rfl, if_neg (by rw [List.length_drop]; omega), if_neg (by rw [hI]; decide)]
        exact h
      | true =>
        have h := part_2o ba bc na nc m l i n d hi hn W hd x hb hmx hq h2 (by omega) hI hs hl
        subst h2
        rw [knq, if_neg (by decide), if_pos rfl, if_neg (by rw [List.length_drop]; omega), if_pos hI]
        exact h
  by_cases h3 : x = 3
  · rcases hr : nmq (m.drop (i + 1)) l with c | ⟨s, r, l'⟩
    · have h := part_3e ba bc na nc m l i n d hi hn W hd x hb hmx hq hs hl h3 c hr
      subst h3; simpa [knq, hr] using h
    · have h := part_3o ba bc na nc m l i n d hi hn W hd x hb hmx hq hs hl h3 s r l' hr (nmq_len hr).2
      subst h3; simpa [knq, hr] using h
  by_cases h8 : x = 8
  · rcases hr : nmb 10 0 0 (m.drop (i + 1)) with c | ⟨u, r⟩
    · have h := part_8e ba bc na nc m l i n d hi hn W hd x hb hmx hq h8 c hr
      subst h8; simpa [knq, rwq, hr] using h
    · by_cases hg : 4096 - (n + 1) < u
      · have h := part_8b ba bc na nc m l i n d hi hn W hd x hb hmx hq h8 u r hr hg
        have hg' : 4095 - n < u := by omega
        subst h8; simpa [knq, rwq, hr, hg'] using h
      · by_cases hsh : r.length < u
        · have h := part_8s ba bc na nc m l i n d hi hn W hd x hb hmx hq h8 u r hr (by omega) hsh
          subst h8; simpa [knq, rwq, hr, show ¬ 4095 - n < u by omega, hsh] using h
        · have h := part_8o ba bc na nc m l i n d hi hn W hd x hb hmx hq h8 u r hr (by omega) (by omega) hs hl
          subst h8; simpa [knq, rwq, hr, show ¬ 4095 - n < u by omega, hsh] using h
  have hid : ∀ c, knq p x (m.drop (i + 1)) (n + 1) l = c → x = 4 ∨ x = 5 → (match idq (m.drop (i + 1)) with
    | .error e => .error e
    | .ok (c, t, u, m') => if idOk c (t : Int) (u : Int) = true then .ok (.mk { k := x, a := c, c := (t : Int), d := (u : Int) } [] [], m', n + 1, l) else .error 73) = c := fun c h h45 => by
    rw [knq, if_neg h1, if_neg h2, if_neg h3, if_pos h45] at h; exact h
  by_cases h45 : x = 4 ∨ x = 5
  · rw [← hid _ rfl h45]
    by_cases hm : i + 1 = m.length
    · rw [show m.drop (i + 1) = [] by rw [hm]; simp]
      rcases h45 with h4 | h5
      · exact part_4a ba bc na nc m l i n d hi hn W hd x hb hmx hq h4 hm
      · exact part_5a ba bc na nc m l i n d hi hn W hd x hb hmx hq h5 hm
    · obtain ⟨y, hmy⟩ : ∃ y, m[i + 1]? = some y := ⟨_, List.getElem?_eq_getElem (by omega)⟩
      have hdr : m.drop (i + 1) = y :: m.drop (i + 1 + 1) := by
        obtain ⟨hlt, hy⟩ := List.getElem?_eq_some_iff.1 hmy
        rw [List.drop_eq_getElem_cons hlt, hy]
      rw [hdr]
      rcases hr : nmb 10 0 0 (m.drop (i + 1 + 1)) with c | ⟨t, r2⟩
      · simp only [idq, hr]
        rcases h45 with h4 | h5
        · exact part_4b ba bc na nc m l i n d hi hn W hd x hb hmx hq h4 y hmy c hr
        · exact part_5b ba bc na nc m l i n d hi hn W hd x hb hmx hq h5 y hmy c hr
      · by_cases hg : 4294967295 < t
        · simp only [idq, hr, if_pos hg]
          rcases h45 with h4 | h5
          · exact part_4c ba bc na nc m l i n d hi hn W hd x hb hmx hq h4 y hmy t r2 hr hg
          · exact part_5c ba bc na nc m l i n d hi hn W hd x hb hmx hq h5 y hmy t r2 hr hg
        · rcases hr2 : nmb 10 0 0 r2 with c | ⟨u, r3⟩
          · simp only [idq, hr, if_neg hg, hr2]
            rcases h45 with h4 | h5
            · exact part_4d ba bc na nc m l i n d hi hn W hd x hb hmx hq h4 y hmy t r2 hr (by omega) c hr2
            · exact part_5d ba bc na nc m l i n d hi hn W hd x hb hmx hq h5 y hmy t r2 hr (by omega) c hr2
          · simp only [idq, hr, if_neg hg, hr2]
            cases hI : idOk y (t : Int) (u : Int) with
            | false =>
              rw [if_neg (by decide)]
              rcases h45 with h4 | h5
              · exact part_4e ba bc na nc m l i n d hi hn W hd x hb hmx hq h4 y hmy t r2 hr (by omega) u r3 hr2 hI
              · exact part_5e ba bc na nc m l i n d hi hn W hd x hb hmx hq h5 y hmy t r2 hr (by omega) u r3 hr2 hI
            | true =>
              rw [if_pos rfl]
              rcases h45 with h4 | h5
              · have h := part_4f ba bc na nc m l i n d hi hn W hd x hb hmx hq h4 y hmy t r2 hr (by omega) u r3 hr2 hI hs hl
                rw [h4]; exact h
              · have h := part_5f ba bc na nc m l i n d hi hn W hd x hb hmx hq h5 y hmy t r2 hr (by omega) u r3 hr2 hI hs hl
                rw [h5]; exact h
  · rw [knq, if_neg h1, if_neg h2, if_neg h3, if_neg h45, if_neg (by omega), if_neg h8]
    exact part_other ba bc na nc m l i n d hi hn W hd x hb hmx hq (by omega)
end Go.Proofs.YtmohehfkbhllpaaGreat

namespace Go.Proofs.YtmohehfkbhllpaaGreat
open Go.RowKit Go.Maps
variable {S S' Z : Nat → Prop} {W W1 W' : World}
theorem partR (Z : Nat → Prop) (ba : Option Addr) (bc : Nat) (m : List Int) (r : Nat) : PartR Z ba bc m r := by
  induction r with
  | zero =>
    intro W na nc l i n d hd1 hd hi hn hq hs hl
    exact part_deep ba bc na nc m l i n d hi hn W (by omega)
  | succ r ih =>
    intro W na nc l i n d hd1 hd hi hn hq hs hl
    have hd' : d + 1 + (r : Int) = 25 := by omega
    have hP : ∀ mm, ptq (r + 1) mm n l = if 4096 ≤ n then .error 21 else match mm with
      | [] => .error 72
      | k :: m => knq (ptq r) k m (n + 1) l := fun mm => by cases mm <;> rfl
    rw [hP]
    clear hP
    by_cases hb : n = 4096
    · rw [if_pos (by omega)]
      exact part_big ba bc na nc m l i n d hi hn W (by omega) hb
    · rw [if_neg (by omega)]
      by_cases hm : i = m.length
      · have e : m.drop i = [] := by rw [hm]; simp
        rw [e]
        exact part_no ba bc na nc m l i n d hi hn W (by omega) (by omega) hm
      obtain ⟨x, hmx⟩ : ∃ x, m[i]? = some x := ⟨_, List.getElem?_eq_getElem (by omega)⟩
      have hdr : m.drop i = x :: m.drop (i + 1) := by
        obtain ⟨hlt, hy⟩ := List.getElem?_eq_some_iff.1 hmx
        rw [List.drop_eq_getElem_cons hlt, hy]
      rw [hdr]
      show Calls Tryz.prog 16 _ W fun e w' => EndP ba bc m W e w' (knq (ptq r) x (m.drop (i + 1)) (n + 1) l) ∧ Gr (fun _ => False) W w'
      by_cases h6 : x = 6
      · rcases hr : nmb 10 0 0 (m.drop (i + 1)) with c | ⟨u, r2⟩
        · have h := part_6e ba bc na nc m l i n d hi hn W (by omega) x (by omega) hmx hq h6 c hr
          subst h6; simpa [knq, hr] using h
        · by_cases hg : 256 < u
          · have h := part_6n ba bc na nc m l i n d hi hn W (by omega) x (by omega) hmx hq h6 u r2 hr hg
            subst h6; simpa [knq, hr, hg] using h
          · have h := part_6o ba bc na nc m l i n d hi hn W (by omega) x (by omega) hmx hq h6 u r2 hr (by omega) hs hl r ih hd1 (by omega)
            have e : knq (ptq r) x (m.drop (i + 1)) (n + 1) l = fl7 6 (elq (ptq r) u r2 (n + 1) l []) := by
              rw [knq, if_neg (by omega), if_neg (by omega), if_neg (by omega), if_neg (by omega), if_pos (by omega), hr]
              simp only [if_neg hg]
              rw [h6]
              cases elq (ptq r) u r2 (n + 1) l [] <;> rfl
            rw [e]; exact h
      by_cases h7 : x = 7
      · rcases hr : nmb 10 0 0 (m.drop (i + 1)) with c | ⟨u, r2⟩
        · have h := part_7e ba bc na nc m l i n d hi hn W (by omega) x (by omega) hmx hq h7 c hr
          subst h7; simpa [knq, hr] using h
        · by_cases hg : 256 < u
          · have h := part_7n ba bc na nc m l i n d hi hn W (by omega) x (by omega) hmx hq h7 u r2 hr hg
            subst h7; simpa [knq, hr, hg] using h
          · have h := part_7o ba bc na nc m l i n d hi hn W (by omega) x (by omega) hmx hq h7 u r2 hr (by omega) hs hl r ih hd1 (by omega)
            have e : knq (ptq r) x (m.drop (i + 1)) (n + 1) l = fl7 7 (elq (ptq r) u r2 (n + 1) l []) := by
              rw [knq, if_neg (by omega), if_neg (by omega), if_neg (by omega), if_neg (by omega), if_pos (by omega), hr]
              simp only [if_neg hg]
              rw [h7]
              cases elq (ptq r) u r2 (n + 1) l [] <;> rfl
            rw [e]; exact h
      exact part_leaf (ptq r) ba bc na nc m l i n d hi hn W (by omega) x (by omega) hmx hq hs hl h6 h7
end Go.Proofs.YtmohehfkbhllpaaGreat
