/-
  What Check answers does not depend on the order of functions (pure).
  What Check answers does not depend on what one variable is called, where nobody else is called so (pure).
-/
import Derived.Test.YtjedbfbolifjjaaGreatDoorMF
import Derived.Test.YtjedbfbolifjjaaGreatDoorHH
set_option linter.unusedVariables false
set_option linter.unusedSimpArgs false
namespace Go.Proofs.YtjedbfbolifjjaaGreatDoor
open Go.RowKit Go.Maps
theorem hdsL_nod (l : List Tr) : ∀ L, (hdsL L l).length = L.length + l.length ↔ (∀ h ∈ l.map hdT, h ∉ L) ∧ (l.map hdT).Nodup := by
 induction l with
 | nil => intro L; simp [hdsL]
 | cons T l ih =>
  intro L
  have e : hdsL L (T :: l) = hdsL (putH L (hdT T)) l := rfl
  have hle := hdsL_len l L
  by_cases hT : hdT T ∈ L
  · have e2 : putH L (hdT T) = L := by unfold putH; rw [if_pos (inH_iff.2 hT)]
    rw [e, e2]
    refine ⟨fun h => ?_, fun h => absurd hT (h.1 _ (by simp))⟩
    rw [List.length_cons] at h; omega
  ·
   have e2 : putH L (hdT T) = L ++ [hdT T] := by unfold putH; rw [if_neg (fun h => hT (inH_iff.1 h))]
   rw [e, e2]
   have := ih (L ++ [hdT T])
   rw [List.length_append, List.length_singleton] at this
   rw [show L.length + (T :: l).length = L.length + 1 + l.length by rw [List.length_cons]; omega, this, List.map_cons, List.nodup_cons]
   constructor
   · rintro ⟨h1, h2⟩
     refine ⟨fun h hm => ?_, fun hm => (h1 _ hm) (by simp), h2⟩
     rcases List.mem_cons.1 hm with rfl | hm
     · exact hT
     · exact fun hL => h1 _ hm (by simp [hL])
   · rintro ⟨h1, h2, h3⟩
     refine ⟨fun h hm hL => ?_, h3⟩
     rcases List.mem_append.1 hL with hL | hL
     · exact h1 h (by simp [hm]) hL
     · exact h2 (by rw [← List.mem_singleton.1 hL]; exact hm)
theorem hdsL_mem (l : List Tr) : ∀ L h, h ∈ hdsL L l ↔ h ∈ L ∨ h ∈ l.map hdT := by
 induction l with
 | nil => intro L h; simp [hdsL]
 | cons T l ih =>
  intro L h
  rw [show hdsL L (T :: l) = hdsL (putH L (hdT T)) l from rfl, ih]
  unfold putH
  split
  ·
   rename_i hc
   have := inH_iff.1 hc
   simp only [List.map_cons, List.mem_cons]
   constructor
   · rintro (h | h)
     · exact .inl h
     · exact .inr (.inr h)
   · rintro (h | rfl | h)
     · exact .inl h
     · exact .inl this
     · exact .inr h
  · simp only [List.map_cons, List.mem_cons, List.mem_append, List.mem_singleton, List.not_mem_nil, or_false, or_assoc]
end Go.Proofs.YtjedbfbolifjjaaGreatDoor

namespace Go.Proofs.YtjedbfbolifjjaaGreatDoor
open Go.RowKit Go.Maps
end Go.Proofs.YtjedbfbolifjjaaGreatDoor
