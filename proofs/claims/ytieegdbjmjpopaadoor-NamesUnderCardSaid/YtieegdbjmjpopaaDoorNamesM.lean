/- The plain mathematics of layer 16: paths and names. Names no program. -/
import Derived.Test.YtieegdbjmjpopaaDoorKeysM
namespace Go.Proofs.YtieegdbjmjpopaaDoor.NamesM
set_option linter.unusedVariables false
set_option linter.unusedSimpArgs false
open Go.Proofs.YtieegdbjmjpopaaDoor.Byte Go.Proofs.YtieegdbjmjpopaaDoor.PackM Go.Proofs.YtieegdbjmjpopaaDoor.KeysM

/-- What stands between the slashes. -/
def fields : List Int → List (List Int)
  | [] => [[]]
  | c :: r => if c = 47 then [] :: fields r else match fields r with
    | [] => [[c]]
    | f :: fs => (c :: f) :: fs
theorem fields_back (l : List Int) : (fields l).flatMap (fun f => 47 :: f) = 47 :: l := by
  induction l with
  | nil => rfl
  | cons c r ih =>
    unfold fields
    by_cases h : c = 47
    · rw [if_pos h, List.flatMap_cons, ih, h]
      rfl
    · rw [if_neg h]
      cases hf : fields r with
      | nil =>
        rw [hf] at ih
        cases ih
      | cons f fs =>
        rw [hf, List.flatMap_cons] at ih
        injection ih with _ ih
        simp only [List.flatMap_cons, List.cons_append]
        rw [show f ++ List.flatMap (fun f => 47 :: f) fs = r from ih]
theorem fields_cut {a r : List Int} (h : ∀ x ∈ a, x ≠ 47) : fields (a ++ 47 :: r) = a :: fields r := by
  induction a with
  | nil => exact if_pos rfl
  | cons c a ih =>
    show fields (c :: (a ++ 47 :: r)) = _
    rw [fields, if_neg (h c (by simp)), ih (fun x hx => h x (by simp [hx]))]
theorem fields_end {a : List Int} (h : ∀ x ∈ a, x ≠ 47) : fields a = [a] := by
  induction a with
  | nil => rfl
  | cons c a ih => rw [fields, if_neg (h c (by simp)), ih (fun x hx => h x (by simp [hx]))]
theorem fields_of (a : List Int) (L : List (List Int)) (ha : ∀ x ∈ a, x ≠ 47) (h : ∀ f ∈ L, ∀ x ∈ f, x ≠ 47) : fields (a ++ L.flatMap (fun f => 47 :: f)) = a :: L := by
  induction L generalizing a with
  | nil => rw [List.flatMap_nil, List.append_nil]; exact fields_end ha
  | cons b L ih =>
    rw [List.flatMap_cons, List.cons_append, fields_cut ha, ih b (fun x hx => h b (by simp) x hx) (fun f hf => h f (by simp [hf]))]
theorem fields_mem {l : List Int} {f : List Int} (h : f ∈ fields l) : ∀ x ∈ f, x ∈ l := by
  induction l generalizing f with
  | nil =>
    simp [fields] at h
    subst h
    simp
  | cons c r ih =>
    unfold fields at h
    by_cases h47 : c = 47
    · rw [if_pos h47] at h
      rcases List.mem_cons.1 h with rfl | h
      · simp
      · intro x hx
        exact List.mem_cons_of_mem _ (ih h x hx)
    · rw [if_neg h47] at h
      cases hf : fields r with
      | nil =>
        rw [hf] at h
        rw [List.mem_singleton] at h
        subst h
        intro x hx
        rw [List.mem_singleton] at hx
        rw [hx]
        simp
      | cons g fs =>
        rw [hf] at h ih
        rcases List.mem_cons.1 h with rfl | h
        · intro x hx
          rcases List.mem_cons.1 hx with rfl | hx
          · simp
          · exact List.mem_cons_of_mem _ (ih (List.mem_cons_self ..) x hx)
        · intro x hx
          exact List.mem_cons_of_mem _ (ih (List.mem_cons_of_mem _ h) x hx)
theorem fields_ne (l : List Int) : fields l ≠ [] := by
  intro h
  have := fields_back l
  rw [h] at this
  cases this

abbrev E0 : ByteArray := ⟨#[]⟩
/-- A path's names. -/
def namesOf (s : ByteArray) : List ByteArray := (fields ((txt s).drop 1)).map str
/-- The names of a path, and the error's number. -/
def spl (s : ByteArray) : List ByteArray × Int :=
  if s.size = 0 ∨ 255 < s.size then ([], 17) else if (txt s).getD 0 0 ≠ 47 then ([], 15) else if s.size = 1 then ([], 0)
  else if (namesOf s).all nameOk && decide ((namesOf s).length ≤ 16) then (namesOf s, 0) else ([], 17)
def slashed (l : List ByteArray) : List Int := l.flatMap (fun s => 47 :: txt s)
/-- The path of names, and the error's number. -/
def joi (l : List ByteArray) : ByteArray × Int :=
  if 16 < l.length then (E0, 17) else if l.all nameOk = false then (E0, 17) else if l = [] then (str [47], 0) else if 255 < (slashed l).length then (E0, 17) else (str (slashed l), 0)
theorem name_no47 {s : ByteArray} (h : nameOk s = true) : ∀ x ∈ txt s, x ≠ 47 := by
  unfold nameOk at h
  simp only [Bool.and_eq_true] at h
  intro x hx
  have := List.all_eq_true.1 h.1.1.2 x hx
  simp at this
  exact this.2
theorem name_pos {s : ByteArray} (h : nameOk s = true) : 0 < s.size ∧ s.size ≤ 32 := by
  unfold nameOk at h
  simp only [Bool.and_eq_true, decide_eq_true_eq] at h
  exact ⟨h.1.1.1.1, h.1.1.1.2⟩
theorem slashed_bd (l : List ByteArray) : ∀ x ∈ slashed l, 0 ≤ x ∧ x ≤ 255 := by
  intro x hx
  obtain ⟨s, _, h⟩ := List.mem_flatMap.1 hx
  rcases List.mem_cons.1 h with rfl | h
  · omega
  · exact txt_bd s x h
theorem slashed_map (l : List ByteArray) : slashed l = (l.map txt).flatMap (fun f => 47 :: f) := by
  unfold slashed
  rw [List.flatMap_map]
theorem str_txts (l : List ByteArray) : (l.map txt).map str = l := by
  rw [List.map_map]
  have : l.map (str ∘ txt) = l.map id := List.map_congr_left (fun x _ => str_txt x)
  rw [this, List.map_id]
theorem txt_names (s : ByteArray) : (namesOf s).map txt = fields ((txt s).drop 1) := by
  unfold namesOf
  rw [List.map_map]
  have : ∀ f ∈ fields ((txt s).drop 1), (txt ∘ str) f = f := fun f hf => txt_str f (fun x hx => txt_bd s x (List.mem_of_mem_drop (fields_mem hf x hx)))
  rw [List.map_congr_left this, List.map_id']
theorem txt_cons {s : ByteArray} (h : 0 < s.size) (h47 : (txt s).getD 0 0 = 47) : txt s = 47 :: (txt s).drop 1 := by
  have hl := txt_len s
  cases ht : txt s with
  | nil => rw [ht] at hl; simp at hl; omega
  | cons c r => rw [ht] at h47; simp at h47; rw [h47]; rfl
theorem joi_spl {s : ByteArray} {l : List ByteArray} (h : spl s = (l, 0)) : joi l = (s, 0) := by
  unfold spl at h
  split at h
  · cases h
  · rename_i h1
    split at h
    · cases h
    · rename_i h2
      have h47 : (txt s).getD 0 0 = 47 := Classical.byContradiction h2
      have hc := txt_cons (by omega) h47
      split at h
      · rename_i h3
        injection h with h _
        subst h
        have hl := txt_len s
        rw [hc, h3] at hl
        have hd : (txt s).drop 1 = [] := List.eq_nil_of_length_eq_zero (by simp at hl ⊢; omega)
        rw [hd] at hc
        unfold joi
        simp only [List.length_nil, List.all_nil, if_true]
        rw [if_neg (by omega), if_neg (by simp), ← hc, str_txt]
      · split at h
        · rename_i h3 h4
          injection h with h _
          rw [Bool.and_eq_true, decide_eq_true_eq] at h4
          have hs : slashed l = txt s := by rw [slashed_map, ← h, txt_names, fields_back, ← hc]
          unfold joi
          rw [if_neg (by rw [← h]; omega), if_neg (by rw [← h, h4.1]; simp), if_neg, if_neg, hs, str_txt]
          · rw [hs, txt_len]; omega
          · intro e
            rw [e] at hs
            rw [hc] at hs
            cases hs
        · cases h
theorem spl_joi {s : ByteArray} {l : List ByteArray} (h : joi l = (s, 0)) : spl s = (l, 0) := by
  unfold joi at h
  split at h
  · cases h
  · rename_i h1
    split at h
    · cases h
    · rename_i h2
      have h2' : l.all nameOk = true := by simpa using h2
      split at h
      · rename_i h3
        injection h with h _
        subst h
        subst h3
        rw [show spl (str [47]) = ([], 0) by decide +kernel]
      · rename_i h3
        split at h
        · cases h
        · rename_i h4
          injection h with h _
          subst h
          have ht : txt (str (slashed l)) = slashed l := txt_str _ (slashed_bd l)
          have hz := str_size (slashed l)
          match l, h3 with
          | a :: r, _ =>
            have ha : nameOk a = true := List.all_eq_true.1 h2' a (by simp)
            have hsl : slashed (a :: r) = 47 :: (txt a ++ slashed r) := rfl
            have hlen : (slashed (a :: r)).length = 1 + (a.size + (slashed r).length) := by rw [hsl, List.length_cons, List.length_append, txt_len]; omega
            have hp := name_pos ha
            have hn : namesOf (str (slashed (a :: r))) = a :: r := by
              unfold namesOf
              rw [ht, hsl, List.drop_one, List.tail_cons, slashed_map, fields_of _ _ (name_no47 ha) (fun f hf => by
                obtain ⟨b, hb, rfl⟩ := List.mem_map.1 hf
                exact name_no47 (List.all_eq_true.1 h2' b (by simp [hb])))]
              rw [← List.map_cons, str_txts]
            unfold spl
            rw [if_neg (by rw [hz]; omega), if_neg (by rw [ht, hsl]; simp), if_neg (by rw [hz]; omega), hn, h2']
            rw [if_pos (by simp; simp at h1; omega)]
/-- A field, as it is met. -/
theorem field_at {s : ByteArray} {f i : Nat} (hf : f ≤ i) (h1 : i ≤ s.size) (hno : ∀ j, f ≤ j → j < i → (txt s).getD j 0 ≠ 47) (hi : i < s.size → (txt s).getD i 0 = 47) :
    fields ((txt s).drop f) = txt (s.extract f i) :: (if i + 1 ≤ s.size then fields ((txt s).drop (i + 1)) else []) := by
  have hl := txt_len s
  have hx : txt (s.extract f i) = ((txt s).drop f).take (i - f) := by
    unfold txt
    rw [ByteArray.data_extract]
    simp [List.map_take, List.map_drop, List.drop_take]
  have hno2 : ∀ x ∈ ((txt s).drop f).take (i - f), x ≠ 47 := by
    intro x hx
    obtain ⟨j, hj, rfl⟩ := List.mem_iff_getElem.1 hx
    rw [List.length_take, List.length_drop] at hj
    rw [List.getElem_take, List.getElem_drop]
    have := hno (f + j) (by omega) (by omega)
    rw [List.getD_eq_getElem?_getD, List.getElem?_eq_getElem (by omega)] at this
    exact this
  rcases Nat.lt_or_eq_of_le h1 with hlt | heq
  · rw [if_pos (by omega), hx]
    have hsplit : (txt s).drop f = ((txt s).drop f).take (i - f) ++ 47 :: (txt s).drop (i + 1) := by
      have e1 : ((txt s).drop f).drop (i - f) = (txt s).drop i := by rw [List.drop_drop]; congr 1; omega
      have e2 : (txt s).drop i = 47 :: (txt s).drop (i + 1) := by
        rw [List.drop_eq_getElem_cons (by omega)]
        have := hi hlt
        rw [List.getD_eq_getElem?_getD, List.getElem?_eq_getElem (by omega)] at this
        rw [show (txt s)[i] = 47 from this]
      have := List.take_append_drop (i - f) ((txt s).drop f)
      rw [e1, e2] at this
      exact this.symm
    rw [hsplit, fields_cut hno2, ← hsplit]
  · subst heq
    rw [if_neg (by omega), hx]
    have he : ((txt s).drop f).take (s.size - f) = (txt s).drop f := List.take_of_length_le (by rw [List.length_drop]; omega)
    rw [he] at hno2 ⊢
    exact fields_end hno2
/-- All is found. -/
theorem spl_all {s : ByteArray} {outs : List ByteArray} (h1 : 2 ≤ s.size) (h2 : s.size ≤ 255) (h47 : (txt s).getD 0 0 = 47) (hf : fields ((txt s).drop 1) = outs.map txt) (ho : outs.all nameOk = true) : spl s = if outs.length ≤ 16 then (outs, 0) else ([], 17) := by
  have hn : namesOf s = outs := by
    unfold namesOf
    rw [hf, str_txts]
  unfold spl
  rw [if_neg (by omega), if_neg (fun h => h h47), if_neg (by omega), hn, ho]
  by_cases h : outs.length ≤ 16 <;> simp [h]
/-- A name that may not be. -/
theorem spl_bad {s : ByteArray} {outs : List ByteArray} {x : ByteArray} {rest : List (List Int)} (h1 : 2 ≤ s.size) (h2 : s.size ≤ 255) (h47 : (txt s).getD 0 0 = 47) (hf : fields ((txt s).drop 1) = outs.map txt ++ txt x :: rest) (hx : nameOk x = false) : spl s = ([], 17) := by
  have hn : x ∈ namesOf s := by
    unfold namesOf
    rw [hf, List.map_append, List.map_cons, str_txt]
    simp
  have ha : (namesOf s).all nameOk = false := by
    cases h : (namesOf s).all nameOk with
    | false => rfl
    | true => rw [List.all_eq_true.1 h x hn] at hx; cases hx
  unfold spl
  rw [if_neg (by omega), if_neg (fun h => h h47), if_neg (by omega), ha]
  rfl
theorem spl_no {s : ByteArray} (h : s.size = 0 ∨ 255 < s.size) : spl s = ([], 17) := if_pos h
theorem spl_15 {s : ByteArray} (h : ¬ (s.size = 0 ∨ 255 < s.size)) (h47 : (txt s).getD 0 0 ≠ 47) : spl s = ([], 15) := by unfold spl; rw [if_neg h, if_pos h47]
theorem spl_1 {s : ByteArray} (h : s.size = 1) (h47 : (txt s).getD 0 0 = 47) : spl s = ([], 0) := by unfold spl; rw [if_neg (by omega), if_neg (fun h => h h47), if_pos h]
theorem slashed_snoc (l : List ByteArray) (x : ByteArray) : slashed (l ++ [x]) = slashed l ++ 47 :: txt x := by
  unfold slashed
  rw [List.flatMap_append]
  simp
theorem joi_long {l : List ByteArray} (h : 16 < l.length) : joi l = (E0, 17) := if_pos h
theorem joi_bad {l : List ByteArray} {x : ByteArray} (hx : x ∈ l) (h : nameOk x = false) : joi l = (E0, 17) := by
  have ha : l.all nameOk = false := by
    cases hh : l.all nameOk with
    | false => rfl
    | true => rw [List.all_eq_true.1 hh x hx] at h; cases h
  unfold joi
  by_cases hl : 16 < l.length
  · rw [if_pos hl]
  · rw [if_neg hl, if_pos ha]
theorem joi_nil : joi [] = (str [47], 0) := rfl
theorem joi_all {l : List ByteArray} (h : l.length ≤ 16) (hne : l ≠ []) (ha : l.all nameOk = true) : joi l = if 255 < (slashed l).length then (E0, 17) else (str (slashed l), 0) := by
  unfold joi
  rw [if_neg (by omega), if_neg (by rw [ha]; simp), if_neg hne]
theorem all_snoc {l : List ByteArray} {x : ByteArray} (h : l.all nameOk = true) (hx : nameOk x = true) : (l ++ [x]).all nameOk = true := by
  rw [List.all_append, h]
  simp [hx]
/-- Is the one the other's beginning, and shorter? -/
def under (a b : List ByteArray) : Bool := decide (a.length < b.length) && decide (b.take a.length = a)
theorem under_app (a b : List ByteArray) : under a (a ++ b) = decide (0 < b.length) := by
  unfold under
  rw [List.take_left, List.length_append]
  have : (a.length < a.length + b.length) = (0 < b.length) := by apply propext; omega
  simp
theorem under_self (a : List ByteArray) : under a a = false := by
  unfold under
  simp
end Go.Proofs.YtieegdbjmjpopaaDoor.NamesM
