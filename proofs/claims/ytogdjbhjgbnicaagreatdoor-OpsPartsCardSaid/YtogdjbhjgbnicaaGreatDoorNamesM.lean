import Derived.Test.YtogdjbhjgbnicaaGreatDoorKeysM
set_option linter.unusedVariables false
set_option linter.unusedSimpArgs false
namespace Go.Proofs.YtogdjbhjgbnicaaGreatDoor.NamesM
open Byte PackM KeysM
def fields : List Int → List (List Int)
 | [] => [[]]
 | c :: r => if c = 47 then [] :: fields r else match fields r with
   | [] => [[c]]
   | f :: fs => (c :: f) :: fs
theorem fields_back (l : List Int) : (fields l).flatMap (fun f => 47 :: f) = 47 :: l := by
 induction l with
 | nil => rfl
 | cons c r ih =>
   unfold fields
   by_cases h : c = 47
   ·rw [if_pos h,List.flatMap_cons,ih,h]
    rfl
   ·rw [if_neg h]
    cases hf : fields r with
    | nil =>
      rw [hf] at ih
      cases ih
    | cons f fs =>
      rw [hf,List.flatMap_cons] at ih
      injection ih with _ ih
      simp only [List.flatMap_cons,List.cons_append]
      rw [show f ++ List.flatMap (fun f => 47 :: f) fs = r from ih]
theorem fields_mem {l : List Int} {f : List Int} (h : f ∈ fields l) : ∀ x ∈ f,x ∈ l := by
 induction l generalizing f with
 | nil =>
   simp [fields] at h
   subst h
   simp
 | cons c r ih =>
   unfold fields at h
   by_cases h47 : c = 47
   ·rw [if_pos h47] at h
    rcases List.mem_cons.1 h with rfl | h
    ·simp
    ·intro x hx
     exact List.mem_cons_of_mem _ (ih h x hx)
   ·rw [if_neg h47] at h
    cases hf : fields r with
    | nil =>
      rw [hf] at h
      rw [List.mem_singleton] at h
      subst h
      intro x hx
      rw [List.mem_singleton] at hx
      rw [hx]
      simp
    | cons g fs =>
      rw [hf] at h ih
      rcases List.mem_cons.1 h with rfl | h
      ·intro x hx
       rcases List.mem_cons.1 hx with rfl | hx
       ·simp
       ·exact List.mem_cons_of_mem _ (ih (List.mem_cons_self ..) x hx)
      ·intro x hx
       exact List.mem_cons_of_mem _ (ih (List.mem_cons_of_mem _ h) x hx)
def namesOf (s : ByteArray) : List ByteArray := (fields ((txt s).drop 1)).map str
def spl (s : ByteArray) : List ByteArray × Int :=
 if s.size = 0 ∨ 255 < s.size then ([],17) else if (txt s).getD 0 0 ≠ 47 then ([],15) else if s.size = 1 then ([],0)
 else if (namesOf s).all nameOk && decide ((namesOf s).length ≤ 16) then (namesOf s,0) else ([],17)
def slashed (l : List ByteArray) : List Int := l.flatMap (fun s => 47 :: txt s)
theorem name_pos {s : ByteArray} (h : nameOk s = true) : 0 < s.size ∧ s.size ≤ 32 := by
 unfold nameOk at h
 simp only [Bool.and_eq_true,decide_eq_true_eq] at h
 exact ⟨h.1.1.1.1,h.1.1.1.2⟩
theorem slashed_map (l : List ByteArray) : slashed l = (l.map txt).flatMap (fun f => 47 :: f) := by
 unfold slashed
 rw [List.flatMap_map]
theorem txt_names (s : ByteArray) : (namesOf s).map txt = fields ((txt s).drop 1) := by
 unfold namesOf
 rw [List.map_map]
 have : ∀ f ∈ fields ((txt s).drop 1),(txt ∘ str) f = f := fun f hf => txt_str f (fun x hx => txt_bd s x (List.mem_of_mem_drop (fields_mem hf x hx)))
 rw [List.map_congr_left this,List.map_id']
theorem txt_cons {s : ByteArray} (h : 0 < s.size) (h47 : (txt s).getD 0 0 = 47) : txt s = 47 :: (txt s).drop 1 := by
 have hl := txt_len s
 cases ht : txt s with
 | nil => rw [ht] at hl; simp at hl; omega
 | cons c r => rw [ht] at h47; simp at h47; rw [h47]; rfl
theorem spl_no {s : ByteArray} (h : s.size = 0 ∨ 255 < s.size) : spl s = ([],17) := if_pos h
theorem spl_15 {s : ByteArray} (h : ¬ (s.size = 0 ∨ 255 < s.size)) (h47 : (txt s).getD 0 0 ≠ 47) : spl s = ([],15) := by unfold spl; rw [if_neg h,if_pos h47]
theorem slashed_snoc (l : List ByteArray) (x : ByteArray) : slashed (l ++ [x]) = slashed l ++ 47 :: txt x := by
 unfold slashed
 rw [List.flatMap_append]
 simp
def under (a b : List ByteArray) : Bool := decide (a.length < b.length) && decide (b.take a.length = a)
end Go.Proofs.YtogdjbhjgbnicaaGreatDoor.NamesM