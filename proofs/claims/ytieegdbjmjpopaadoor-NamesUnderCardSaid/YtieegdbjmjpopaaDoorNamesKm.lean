/- The plain mathematics of the landed layer 16: the library's split and join, and what may be a path's names. -/
import Derived.Test.YtieegdbjmjpopaaDoorNamesM
import Derived.Lib.Split
import Derived.Lib.Join
namespace Go.Proofs.YtieegdbjmjpopaaDoor.NamesKm
set_option linter.unusedVariables false
set_option linter.unusedSimpArgs false
open Go.Proofs.YtieegdbjmjpopaaDoor.Byte Go.Proofs.YtieegdbjmjpopaaDoor.PackM Go.Proofs.YtieegdbjmjpopaaDoor.KeysM Go.Proofs.YtieegdbjmjpopaaDoor.NamesM

def ints (l : List UInt8) : List Int := l.map (fun b => (b.toNat : Int))
theorem pre_47 (b : UInt8) (l : List UInt8) : ([47] : List UInt8).isPrefixOf (b :: l) = (47 == b) := by
  simp [List.isPrefixOf]
theorem splitK_succ (sep : List UInt8) (save k : Nat) (s : List UInt8) : Lib.splitK sep save (k + 1) s = if Lib.index s sep == -1 then [s] else s.take ((Lib.index s sep).toNat + save) :: Lib.splitK sep save k (s.drop ((Lib.index s sep).toNat + sep.length)) := rfl
theorem split_ints (l : List UInt8) : (Lib.split l [47]).map ints = fields (ints l) := by
  induction l with
  | nil => rfl
  | cons b r ih =>
    show _ = fields ((b.toNat : Int) :: ints r)
    unfold fields
    by_cases h : b = 47
    · subst h
      have hi : Lib.index (47 :: r) [47] = ((0 : Nat) : Int) := by unfold Lib.index; rw [pre_47, if_pos (by decide)]; rfl
      rw [if_pos (by decide), ← ih]
      unfold Lib.split
      rw [Lib.count_hit (by decide) hi, Nat.add_comm, splitK_succ, hi, if_neg (by decide)]
      rfl
    · have hb : ¬ (b.toNat : Int) = 47 := by
        intro e
        apply h
        apply UInt8.toNat_inj.1
        show b.toNat = 47
        omega
      have hp : (47 == b) = false := by rw [beq_eq_false_iff_ne]; exact fun e => h e.symm
      rw [if_neg hb, ← ih]
      rcases Lib.index_spec r [47] with ⟨hi, _⟩ | ⟨i, hi, _⟩
      · have hi2 : Lib.index (b :: r) [47] = -1 := by unfold Lib.index; rw [pre_47, hp, hi]; rfl
        unfold Lib.split
        rw [Lib.count_miss hi, Lib.count_miss hi2]
        rfl
      · have hi2 : Lib.index (b :: r) [47] = ((i + 1 : Nat) : Int) := by
          unfold Lib.index
          rw [pre_47, hp, hi]
          have : ((i : Int) == -1) = false := by rw [beq_eq_false_iff_ne]; omega
          simp [this]
        unfold Lib.split
        rw [Lib.count_hit (by decide) hi, Lib.count_hit (by decide) hi2]
        have e1 : (b :: r).drop (i + 1 + ([47] : List UInt8).length) = r.drop (i + ([47] : List UInt8).length) := by simp
        rw [e1, Nat.add_comm 1, splitK_succ, splitK_succ, hi, hi2]
        have q1 : ¬ (((i : Nat) : Int) == -1) = true := by simp
        have q2 : ¬ (((i + 1 : Nat) : Int) == -1) = true := by simp; omega
        rw [if_neg q1, if_neg q2]
        simp only [Int.toNat_natCast, Nat.add_zero, List.map_cons, List.take_succ_cons]
        rw [e1]
        rfl
/-- The text that stands ahead of each name. -/
def sl : ByteArray := ⟨#[47]⟩
theorem txt_ints (s : ByteArray) : txt s = ints s.data.toList := rfl
theorem txt_rest (s : ByteArray) : txt (s.extract 1 s.size) = (txt s).drop 1 := by
  unfold txt
  rw [ByteArray.data_extract]
  simp [List.map_take, List.map_drop]
  refine List.take_of_length_le ?_
  rw [List.length_tail, List.length_map]
  exact Nat.le_refl _
theorem names_split (s : ByteArray) : Lib.splitB sl 0 (Lib.countB (s.extract 1 s.size) sl) (s.extract 1 s.size) = namesOf s := by
  have h := split_ints (s.extract 1 s.size).data.toList
  rw [← txt_ints, txt_rest] at h
  have h2 := Lib.splitB_data sl 0 (Lib.countB (s.extract 1 s.size) sl) (s.extract 1 s.size)
  have h3 : Lib.split (s.extract 1 s.size).data.toList [47] = Lib.splitK sl.data.toList 0 (Lib.countB (s.extract 1 s.size) sl) (s.extract 1 s.size).data.toList := rfl
  rw [h3, ← h2, List.map_map] at h
  unfold namesOf
  rw [← h, List.map_map]
  have : ∀ x : ByteArray, (str ∘ (ints ∘ fun x => x.data.toList)) x = x := fun x => str_txt x
  rw [show (str ∘ (ints ∘ fun x : ByteArray => x.data.toList)) = id from funext this, List.map_id]
theorem split_count (l : List UInt8) : (Lib.split l [47]).length = Lib.count l [47] + 1 := by
  have key : ∀ (n : Nat) (l : List UInt8), l.length ≤ n → (Lib.splitK [47] 0 (Lib.count l [47]) l).length = Lib.count l [47] + 1 := by
    intro n
    induction n with
    | zero =>
      intro l hl
      have : l = [] := List.eq_nil_of_length_eq_zero (by omega)
      subst this
      rfl
    | succ n ih =>
      intro l hl
      rcases Lib.index_spec l [47] with ⟨hi, _⟩ | ⟨i, hi, hil, _⟩
      · rw [Lib.count_miss hi]
        rfl
      · have hr := Lib.index_room l [47] (by omega)
        rw [hi] at hr
        have hq : ¬ (((i : Nat) : Int) == -1) = true := by simp
        rw [Lib.count_hit (by decide) hi, Nat.add_comm 1, splitK_succ, hi, if_neg hq, List.length_cons]
        have hd : (l.drop (i + ([47] : List UInt8).length)).length ≤ n := by simp at hr ⊢; omega
        have := ih _ hd
        simp only [Int.toNat_natCast] at *
        omega
  exact key _ l (Nat.le_refl _)
theorem names_count (s : ByteArray) : Lib.countB (s.extract 1 s.size) sl + 1 = (namesOf s).length := by
  rw [← names_split]
  have h2 := congrArg List.length (Lib.splitB_data sl 0 (Lib.countB (s.extract 1 s.size) sl) (s.extract 1 s.size))
  rw [List.length_map] at h2
  rw [h2]
  exact (split_count _).symm
/-- May these be a path's names? -/
def jok (L : List ByteArray) : Bool := L.all nameOk && decide (L.length ≤ 16) && decide ((slashed L).length ≤ 255)
theorem jok_iff {L : List ByteArray} : jok L = true ↔ L.all nameOk = true ∧ L.length ≤ 16 ∧ (slashed L).length ≤ 255 := by
  unfold jok
  simp [and_assoc]
theorem slashed_append (L M : List ByteArray) : slashed (L ++ M) = slashed L ++ slashed M := by
  unfold slashed
  rw [List.flatMap_append]
theorem jok_snoc (L : List ByteArray) (x : ByteArray) (h : jok L = true) : jok (L ++ [x]) = (nameOk x && decide (L.length + 1 ≤ 16) && decide ((slashed L).length + (1 + x.size) ≤ 255)) := by
  obtain ⟨h1, h2, h3⟩ := jok_iff.1 h
  unfold jok
  rw [List.all_append, h1, slashed_snoc]
  have : (slashed L ++ 47 :: txt x).length = (slashed L).length + (1 + x.size) := by rw [List.length_append, List.length_cons, txt_len]; omega
  rw [this, List.length_append]
  simp
theorem jok_pre {L M : List ByteArray} (h : jok (L ++ M) = true) : jok L = true := by
  obtain ⟨h1, h2, h3⟩ := jok_iff.1 h
  rw [List.all_append, Bool.and_eq_true] at h1
  rw [List.length_append] at h2
  rw [slashed_append, List.length_append] at h3
  exact jok_iff.2 ⟨h1.1, by omega, by omega⟩
theorem jok_take {L : List ByteArray} {k : Nat} (h : jok (L.take k) = false) : jok L = false := by
  cases hh : jok L with
  | false => rfl
  | true =>
    rw [← List.take_append_drop k L] at hh
    rw [jok_pre hh] at h
    cases h
theorem joi_no {L : List ByteArray} (h : jok L = false) : joi L = (NamesM.E0, 17) := by
  unfold joi
  by_cases h1 : 16 < L.length
  · rw [if_pos h1]
  · rw [if_neg h1]
    by_cases h2 : L.all nameOk = false
    · rw [if_pos h2]
    · rw [if_neg h2]
      by_cases h3 : L = []
      · subst h3
        exact absurd h (by decide)
      · rw [if_neg h3]
        by_cases h4 : 255 < (slashed L).length
        · rw [if_pos h4]
        · exfalso
          have : jok L = true := jok_iff.2 ⟨by simpa using h2, by omega, by omega⟩
          rw [this] at h
          cases h
theorem joi_yes {L : List ByteArray} (h : jok L = true) : joi L = (if L = [] then str [47] else str (slashed L), 0) := by
  obtain ⟨h1, h2, h3⟩ := jok_iff.1 h
  unfold joi
  rw [if_neg (by omega), if_neg (by rw [h1]; simp)]
  by_cases h4 : L = []
  · rw [if_pos h4, if_pos h4]
  · rw [if_neg h4, if_neg h4, if_neg (by omega)]
theorem spl_yes {s : ByteArray} (h1 : 2 ≤ s.size) (h2 : s.size ≤ 255) (h47 : (txt s).getD 0 0 = 47) : spl s = if jok (namesOf s) then (namesOf s, 0) else ([], 17) := by
  have hs : slashed (namesOf s) = txt s := by rw [slashed_map, txt_names, fields_back, ← txt_cons (by omega) h47]
  unfold spl jok
  rw [if_neg (by omega), if_neg (fun h => h h47), if_neg (by omega), hs, txt_len]
  have : decide (s.size ≤ 255) = true := decide_eq_true h2
  rw [this, Bool.and_true]
/-- The path of names that may be, as the library joins them. -/
theorem join_is {L : List ByteArray} : sl ++ ⟨(Lib.join (L.map (·.data.toList)) sl.data.toList).toArray⟩ = if L = [] then str [47] else str (slashed L) := by
  by_cases h : L = []
  · subst h
    rfl
  · rw [if_neg h]
    match L, h with
    | a :: r, _ =>
      rw [List.map_cons, Lib.join_cons]
      have e : slashed (a :: r) = ints (47 :: (a.data.toList ++ Lib.joinTail sl.data.toList (r.map (·.data.toList)))) := by
        show 47 :: (txt a ++ slashed r) = _
        have e2 : slashed r = ints (Lib.joinTail sl.data.toList (r.map (·.data.toList))) := by
          unfold Lib.joinTail
          induction r with
          | nil => rfl
          | cons b r ih =>
            rw [List.map_cons, List.map_cons, List.flatten_cons]
            show 47 :: (txt b ++ slashed r) = _
            rw [ih (by simp)]
            simp [ints, sl, txt]
        rw [e2]
        simp [ints, txt]
      rw [e]
      apply ByteArray.ext
      apply Array.ext'
      have q : ∀ l : List UInt8, (str (ints l)).data.toList = l := by
        intro l
        unfold str ints
        rw [List.map_map]
        have q2 : (fun x : Int => UInt8.ofNat x.toNat) ∘ (fun b : UInt8 => (b.toNat : Int)) = id := funext fun b => by simp
        rw [q2, List.map_id]
      rw [q]
      simp [sl]
theorem join_size (L : List ByteArray) : (Lib.join (L.map (·.data.toList)) sl.data.toList).length ≤ (slashed L).length := by
  match L with
  | [] => exact Nat.le_refl _
  | a :: r =>
    have h := congrArg ByteArray.size (join_is (L := a :: r))
    rw [if_neg (by simp), str_size] at h
    rw [← h, ByteArray.size_append]
    show _ ≤ 1 + (Lib.join (List.map (fun x => x.data.toList) (a :: r)) sl.data.toList).length
    omega
theorem txt_size (s : ByteArray) : (txt s).length = s.size := txt_len s
theorem slashed_bounds (L : List ByteArray) : L.length ≤ (slashed L).length ∧ ∀ x ∈ L, x.size ≤ (slashed L).length := by
  induction L with
  | nil => exact ⟨Nat.le_refl _, fun x hx => by cases hx⟩
  | cons a r ih =>
    have e : (slashed (a :: r)).length = 1 + a.size + (slashed r).length := by
      show (47 :: (txt a ++ slashed r)).length = _
      rw [List.length_cons, List.length_append, txt_len]
      omega
    rw [e, List.length_cons]
    refine ⟨by omega, fun x hx => ?_⟩
    rcases List.mem_cons.1 hx with rfl | hx
    · omega
    · have := ih.2 x hx
      omega
theorem one_47 {s : ByteArray} (h : s.size = 1) (h47 : (txt s).getD 0 0 = 47) : s = ⟨#[47]⟩ := by
  have hl := txt_len s
  have hc := txt_cons (s := s) (by omega) h47
  have : (txt s).drop 1 = [] := List.eq_nil_of_length_eq_zero (by rw [List.length_drop]; omega)
  rw [this] at hc
  rw [← str_txt s, hc]
  rfl
end Go.Proofs.YtieegdbjmjpopaaDoor.NamesKm
