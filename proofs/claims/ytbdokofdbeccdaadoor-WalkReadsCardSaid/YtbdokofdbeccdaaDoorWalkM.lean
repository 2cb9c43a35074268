/- The plain mathematics of layer 17: inodes and entries in a row of pairs. Names no program. -/
import Derived.Test.YtbdokofdbeccdaaDoorViewM
import Derived.Test.YtbdokofdbeccdaaDoorNodeM
import Derived.Test.YtbdokofdbeccdaaDoorNamesM
import Derived.Test.YtbdokofdbeccdaaDoorKeysV
namespace Go.Proofs.YtbdokofdbeccdaaDoor.WalkM
set_option linter.unusedVariables false
set_option linter.unusedSimpArgs false
open Go.Proofs.YtbdokofdbeccdaaDoor.Byte Go.Proofs.YtbdokofdbeccdaaDoor.PackM Go.Proofs.YtbdokofdbeccdaaDoor.KeysM Go.Proofs.YtbdokofdbeccdaaDoor.TreeM Go.Proofs.YtbdokofdbeccdaaDoor.ViewM Go.Proofs.YtbdokofdbeccdaaDoor.NodeM

/-- An entry's value. -/
def hangV (ino : Int) : ByteArray := str (low 4 ino)
theorem hangV_size (ino : Int) : (hangV ino).size = 4 := by unfold hangV; rw [str_size, low_len]
theorem hangV_get {ino : Int} (h0 : 0 ≤ ino) (h1 : ino ≤ 4294967295) : PackM.getn (txt (hangV ino)) 0 4 = ino := by
  unfold hangV
  rw [txt_str _ (low_bd 4 ino)]
  have := getn_mid [] [] ino 0 rfl h0 h1
  simpa using this
/-- An entry's inode. -/
def childM (l : List Pr) (dir : Int) (name : ByteArray) : Int × Bool := match getL (kE dir name) l with
  | none => (0, false)
  | some q => if q.value.size = 4 then (PackM.getn (txt q.value) 0 4, true) else (0, false)
/-- Is it an entry of this directory? -/
def entB (dir : Int) (p : Pr) : Bool := decide ((sp p.key).letter = 69) && decide ((sp p.key).ino = dir)
/-- A directory's names. -/
def listM (dir : Int) (l : List Pr) : List ByteArray := (l.filter (entB dir)).map (fun p => (sp p.key).name)
theorem list_next {l : List Pr} {i : Nat} {p : Pr} (h : l[i]? = some p) (dir : Int) : listM dir (l.take (i + 1)) = listM dir (l.take i) ++ (if entB dir p then [(sp p.key).name] else []) := by
  unfold listM
  rw [filter_next h, List.map_append]
  cases entB dir p <;> rfl
/-- A name that is hung. -/
def goodN (name : ByteArray) : Prop := 0 < name.size ∧ name.size ≤ 32
/-- Rows as they come to be: they rise, nothing is gone, all keys are inodes' and entries'. -/
structure GoodW (l : List Pr) : Prop where
  rise : Rise l
  there : ∀ p ∈ l, p.gone = false
  keys : ∀ p ∈ l, (sp p.key).letter ≠ 0
theorem GoodW.nil : GoodW [] := ⟨List.Pairwise.nil, (fun p h => by cases h), (fun p h => by cases h)⟩
theorem GoodW.put {l : List Pr} (h : GoodW l) {k v : ByteArray} (hk : (sp k).letter ≠ 0) : GoodW (putL k v l) := by
  refine ⟨rise_put h.rise k v, fun p hp => ?_, fun p hp => ?_⟩
  · rw [put_putP] at hp
    rcases mem_putP hp with rfl | ⟨hp, _⟩
    · rfl
    · exact h.there p hp
  · rw [put_putP] at hp
    rcases mem_putP hp with rfl | ⟨hp, _⟩
    · exact hk
    · exact h.keys p hp
theorem GoodW.cut {l : List Pr} (h : GoodW l) (k : ByteArray) : GoodW (cutL k l) :=
  ⟨rise_cut h.rise k, fun p hp => h.there p (List.mem_filter.1 hp).1, fun p hp => h.keys p (List.mem_filter.1 hp).1⟩
theorem put_end {l : List Pr} {p : Pr} (h : ∀ q ∈ l, kl q.key p.key = true) : putP p l = l ++ [p] := by
  unfold putP
  rw [List.filter_eq_self.2 h, List.filter_eq_nil_iff.2 (fun q hq => by rw [kl_asym (h q hq)]; decide)]
theorem shown_good {l : List Pr} (h : GoodW l) : shownL [] l = l := by
  suffices H : ∀ (m A : List Pr), GoodW (A ++ m) → shownL A m = A ++ m by simpa using H l [] (by simpa using h)
  intro m
  induction m with
  | nil => intro A _; simp [shownL]
  | cons p m ih =>
    intro A hg
    have hp : p.gone = false := hg.there p (by simp)
    have hr := hg.rise
    unfold Rise at hr
    rw [List.pairwise_append] at hr
    have he : doneW A p = A ++ [p] := by
      unfold doneW
      rw [hp, if_neg (by decide), put_putP]
      have e : (⟨p.key, p.value, false⟩ : Pr) = p := by rw [← hp]
      rw [e]
      exact put_end (fun q hq => hr.2.2 q hq p (by simp))
    show shownL (doneW A p) m = _
    rw [he, ih (A ++ [p]) (by simpa using hg)]
    simp
theorem get_put_same (l : List Pr) (k v : ByteArray) : getL k (putL k v l) = some ⟨k, v, false⟩ := by
  unfold getL putL
  rw [List.find?_append]
  have h1 : (l.filter (fun p => kl p.key k)).find? (fun p => decide (p.key = k)) = none := by
    rw [List.find?_eq_none]
    intro q hq
    have := kl_ne (List.mem_filter.1 hq).2
    simpa using this
  rw [h1]
  simp
theorem get_cut_same (l : List Pr) (k : ByteArray) : getL k (cutL k l) = none := by
  unfold getL
  rw [List.find?_eq_none]
  intro q hq
  have := (List.mem_filter.1 hq).2
  simpa using this
theorem cut_put_same {l : List Pr} (hr : Rise l) (k v : ByteArray) : cutL k (putL k v l) = cutL k l := by
  refine rise_ext (rise_cut (rise_put hr k v) k) (rise_cut hr k) fun p => ?_
  unfold cutL
  rw [List.mem_filter, List.mem_filter, put_putP]
  constructor
  · rintro ⟨h1, h2⟩
    have hk : p.key ≠ k := by simpa using h2
    rcases mem_putP h1 with rfl | ⟨h3, _⟩
    · exact absurd rfl hk
    · exact ⟨h3, h2⟩
  · rintro ⟨h1, h2⟩
    have hk : p.key ≠ k := by simpa using h2
    exact ⟨putP_mem h1 hk, h2⟩
end Go.Proofs.YtbdokofdbeccdaaDoor.WalkM
