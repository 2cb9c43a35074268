import Derived.Test.YtfalhnomhidkcaaGreatDoorKeysM
set_option linter.unusedVariables false
set_option linter.unusedSimpArgs false
namespace Go.Proofs.YtfalhnomhidkcaaGreatDoor.NamesM
open Byte PackM KeysM
def fields : List Int → List (List Int)
 | [] => [[]]
 | c :: r => if c = 47 then [] :: fields r else match fields r with
   | [] => [[c]]
   | f :: fs => (c :: f) :: fs
theorem fields_back (l : List Int) : (fields l).flatMap (fun f => 47 :: f) = 47 :: l := by
 induction l with
 | nil => rfl
 | cons c r ih =>
   unfold fields
   by_cases h : c = 47
   ·rw [if_pos h,List.flatMap_cons,ih,h]
    rfl
   ·rw [if_neg h]
    cases hf : fields r with
    | nil =>
      rw [hf] at ih
      cases ih
    | cons f fs =>
      rw [hf,List.flatMap_cons] at ih
      injection ih with _ ih
      simp only [List.flatMap_cons,List.cons_append]
      rw [show f ++ List.flatMap (fun f => 47 :: f) fs = r from ih]
theorem fields_cut {a r : List Int} (h : ∀ x ∈ a,x ≠ 47) : fields (a ++ 47 :: r) = a :: fields r := by
 induction a with
 | nil => exact if_pos rfl
 | cons c a ih =>
   show fields (c :: (a ++ 47 :: r)) = _
   rw [fields,if_neg (h c (by simp)),ih (fun x hx => h x (by simp [hx]))]
theorem fields_end {a : List Int} (h : ∀ x ∈ a,x ≠ 47) : fields a = [a] := by
 induction a with
 | nil => rfl
 | cons c a ih => rw [fields,if_neg (h c (by simp)),ih (fun x hx => h x (by simp [hx]))]
theorem fields_mem {l : List Int} {f : List Int} (h : f ∈ fields l) : ∀ x ∈ f,x ∈ l := by
 induction l generalizing f with
 | nil =>
   simp [fields] at h
   subst h
   simp
 | cons c r ih =>
   unfold fields at h
   by_cases h47 : c = 47
   ·rw [if_pos h47] at h
    rcases List.mem_cons.1 h with rfl | h
    ·simp
    ·intro x hx
     exact List.mem_cons_of_mem _ (ih h x hx)
   ·rw [if_neg h47] at h
    cases hf : fields r with
    | nil =>
      rw [hf] at h
      rw [List.mem_singleton] at h
      subst h
      intro x hx
      rw [List.mem_singleton] at hx
      rw [hx]
      simp
    | cons g fs =>
      rw [hf] at h ih
      rcases List.mem_cons.1 h with rfl | h
      ·intro x hx
       rcases List.mem_cons.1 hx with rfl | hx
       ·simp
       ·exact List.mem_cons_of_mem _ (ih (List.mem_cons_self ..) x hx)
      ·intro x hx
       exact List.mem_cons_of_mem _ (ih (List.mem_cons_of_mem _ h) x hx)
def namesOf (s : ByteArray) : List ByteArray := (fields ((txt s).drop 1)).map str
def spl (s : ByteArray) : List ByteArray × Int :=
 if s.size = 0 ∨ 255 < s.size then ([],17) else if (txt s).getD 0 0 ≠ 47 then ([],15) else if s.size = 1 then ([],0)
 else if (namesOf s).all nameOk && decide ((namesOf s).length ≤ 16) then (namesOf s,0) else ([],17)
def slashed (l : List ByteArray) : List Int := l.flatMap (fun s => 47 :: txt s)
theorem name_pos {s : ByteArray} (h : nameOk s = true) : 0 < s.size ∧ s.size ≤ 32 := by
 unfold nameOk at h
 simp only [Bool.and_eq_true,decide_eq_true_eq] at h
 exact ⟨h.1.1.1.1,h.1.1.1.2⟩
theorem slashed_map (l : List ByteArray) : slashed l = (l.map txt).flatMap (fun f => 47 :: f) := by
 unfold slashed
 rw [List.flatMap_map]
theorem str_txts (l : List ByteArray) : (l.map txt).map str = l := by
 rw [List.map_map]
 have : l.map (str ∘ txt) = l.map id := List.map_congr_left (fun x _ => str_txt x)
 rw [this,List.map_id]
theorem txt_names (s : ByteArray) : (namesOf s).map txt = fields ((txt s).drop 1) := by
 unfold namesOf
 rw [List.map_map]
 have : ∀ f ∈ fields ((txt s).drop 1),(txt ∘ str) f = f := fun f hf => txt_str f (fun x hx => txt_bd s x (List.mem_of_mem_drop (fields_mem hf x hx)))
 rw [List.map_congr_left this,List.map_id']
theorem txt_cons {s : ByteArray} (h : 0 < s.size) (h47 : (txt s).getD 0 0 = 47) : txt s = 47 :: (txt s).drop 1 := by
 have hl := txt_len s
 cases ht : txt s with
 | nil => rw [ht] at hl; simp at hl; omega
 | cons c r => rw [ht] at h47; simp at h47; rw [h47]; rfl
theorem field_at {s : ByteArray} {f i : Nat} (hf : f ≤ i) (h1 : i ≤ s.size) (hno : ∀ j,f ≤ j → j < i → (txt s).getD j 0 ≠ 47) (hi : i < s.size → (txt s).getD i 0 = 47) :
 fields ((txt s).drop f) = txt (s.extract f i) :: (if i + 1 ≤ s.size then fields ((txt s).drop (i + 1)) else []) := by
 have hl := txt_len s
 have hx : txt (s.extract f i) = ((txt s).drop f).take (i - f) := by
  unfold txt
  rw [ByteArray.data_extract]
  simp [List.map_take,List.map_drop,List.drop_take]
 have hno2 : ∀ x ∈ ((txt s).drop f).take (i - f),x ≠ 47 := by
  intro x hx
  obtain ⟨j,hj,rfl⟩ := List.mem_iff_getElem.1 hx
  rw [List.length_take,List.length_drop] at hj
  rw [List.getElem_take,List.getElem_drop]
  have := hno (f + j) (by omega) (by omega)
  rw [List.getD_eq_getElem?_getD,List.getElem?_eq_getElem (by omega)] at this
  exact this
 rcases Nat.lt_or_eq_of_le h1 with hlt | heq
 ·rw [if_pos (by omega),hx]
  have hsplit : (txt s).drop f = ((txt s).drop f).take (i - f) ++ 47 :: (txt s).drop (i + 1) := by
   have e1 : ((txt s).drop f).drop (i - f) = (txt s).drop i := by rw [List.drop_drop]; congr 1; omega
   have e2 : (txt s).drop i = 47 :: (txt s).drop (i + 1) := by
    rw [List.drop_eq_getElem_cons (by omega)]
    have := hi hlt
    rw [List.getD_eq_getElem?_getD,List.getElem?_eq_getElem (by omega)] at this
    rw [show (txt s)[i] = 47 from this]
   have := List.take_append_drop (i - f) ((txt s).drop f)
   rw [e1,e2] at this
   exact this.symm
  rw [hsplit,fields_cut hno2,← hsplit]
 ·subst heq
  rw [if_neg (by omega),hx]
  have he : ((txt s).drop f).take (s.size - f) = (txt s).drop f := List.take_of_length_le (by rw [List.length_drop]; omega)
  rw [he] at hno2 ⊢
  exact fields_end hno2
theorem spl_all {s : ByteArray} {outs : List ByteArray} (h1 : 2 ≤ s.size) (h2 : s.size ≤ 255) (h47 : (txt s).getD 0 0 = 47) (hf : fields ((txt s).drop 1) = outs.map txt) (ho : outs.all nameOk = true) : spl s = if outs.length ≤ 16 then (outs,0) else ([],17) := by
 have hn : namesOf s = outs := by
  unfold namesOf
  rw [hf,str_txts]
 unfold spl
 rw [if_neg (by omega),if_neg (fun h => h h47),if_neg (by omega),hn,ho]
 by_cases h : outs.length ≤ 16 <;> simp [h]
theorem spl_bad {s : ByteArray} {outs : List ByteArray} {x : ByteArray} {rest : List (List Int)} (h1 : 2 ≤ s.size) (h2 : s.size ≤ 255) (h47 : (txt s).getD 0 0 = 47) (hf : fields ((txt s).drop 1) = outs.map txt ++ txt x :: rest) (hx : nameOk x = false) : spl s = ([],17) := by
 have hn : x ∈ namesOf s := by
  unfold namesOf
  rw [hf,List.map_append,List.map_cons,str_txt]
  simp
 have ha : (namesOf s).all nameOk = false := by
  cases h : (namesOf s).all nameOk with
  | false => rfl
  | true => rw [List.all_eq_true.1 h x hn] at hx; cases hx
 unfold spl
 rw [if_neg (by omega),if_neg (fun h => h h47),if_neg (by omega),ha]
 rfl
theorem spl_no {s : ByteArray} (h : s.size = 0 ∨ 255 < s.size) : spl s = ([],17) := if_pos h
theorem spl_15 {s : ByteArray} (h : ¬ (s.size = 0 ∨ 255 < s.size)) (h47 : (txt s).getD 0 0 ≠ 47) : spl s = ([],15) := by unfold spl; rw [if_neg h,if_pos h47]
theorem spl_1 {s : ByteArray} (h : s.size = 1) (h47 : (txt s).getD 0 0 = 47) : spl s = ([],0) := by unfold spl; rw [if_neg (by omega),if_neg (fun h => h h47),if_pos h]
theorem slashed_snoc (l : List ByteArray) (x : ByteArray) : slashed (l ++ [x]) = slashed l ++ 47 :: txt x := by
 unfold slashed
 rw [List.flatMap_append]
 simp
theorem all_snoc {l : List ByteArray} {x : ByteArray} (h : l.all nameOk = true) (hx : nameOk x = true) : (l ++ [x]).all nameOk = true := by
 rw [List.all_append,h]
 simp [hx]
end Go.Proofs.YtfalhnomhidkcaaGreatDoor.NamesM