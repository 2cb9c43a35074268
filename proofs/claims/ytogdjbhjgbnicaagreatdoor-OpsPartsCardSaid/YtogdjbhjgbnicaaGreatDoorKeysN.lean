import Derived.Test.YtogdjbhjgbnicaaGreatDoorKeysS
set_option linter.unusedVariables false
set_option linter.unusedSimpArgs false
namespace Go.Proofs.YtogdjbhjgbnicaaGreatDoor.KeysN
open Go.RowKit
open Byte KeysM KeysR KeysS
theorem toList_d (s : ByteArray) : s.toList = s.data.toList := ByteArray.toList_eq s
theorem is_txt (s : ByteArray) (l : List UInt8) : txt s = l.map (fun b => (b.toNat : Int)) ↔ s.toList = l := by
 have ht : s.toList = s.data.toList := toList_d s
 rw [ht]
 unfold txt
 constructor
 ·intro h
  have h2 := congrArg (List.map (fun x : Int => UInt8.ofNat x.toNat)) h
  simpa [List.map_map,Function.comp_def] using h2
 ·intro h
  rw [h]
theorem name_bad {s : ByteArray} {k : Nat} (hk : k < s.size) (h : (txt s).getD k 0 = 0 ∨ (txt s).getD k 0 = 47) : nameOk s = false := by
 have hl : k < (txt s).length := by rw [txt_len]; exact hk
 have hm : (txt s).getD k 0 ∈ txt s := by
  rw [List.getD_eq_getElem?_getD,List.getElem?_eq_getElem hl]
  exact List.getElem_mem hl
 have ha : (txt s).all (fun x => decide (x ≠ 0) && decide (x ≠ 47)) = false := by
  cases hall : (txt s).all (fun x => decide (x ≠ 0) && decide (x ≠ 47)) with
  | false => rfl
  | true =>
    have := List.all_eq_true.1 hall _ hm
    rcases h with h | h <;> rw [h] at this <;> simp at this
 unfold nameOk
 rw [ha]
 simp
theorem name_all {s : ByteArray} (h : ∀ j,j < s.size → (txt s).getD j 0 ≠ 0 ∧ (txt s).getD j 0 ≠ 47) : nameOk s = (decide (0 < s.size) && decide (s.size ≤ 32) && !(s.toList == [46]) && !(s.toList == [46,46])) := by
 have ha : (txt s).all (fun x => decide (x ≠ 0) && decide (x ≠ 47)) = true := by
  rw [List.all_eq_true]
  intro x hx
  obtain ⟨j,hj,rfl⟩ := List.mem_iff_getElem.1 hx
  have := h j (by rw [← txt_len]; exact hj)
  rw [List.getD_eq_getElem?_getD,List.getElem?_eq_getElem hj] at this
  simpa using this
 have h1 : decide (txt s ≠ [46]) = !(s.toList == [46]) := by
  have := is_txt s [46]
  rw [Bool.eq_iff_iff]
  simp only [decide_eq_true_eq,Bool.not_eq_true',beq_eq_false_iff_ne,ne_eq]
  exact not_congr this
 have h2 : decide (txt s ≠ [46,46]) = !(s.toList == [46,46]) := by
  have := is_txt s [46,46]
  rw [Bool.eq_iff_iff]
  simp only [decide_eq_true_eq,Bool.not_eq_true',beq_eq_false_iff_ne,ne_eq]
  exact not_congr this
 unfold nameOk
 rw [ha,h1,h2,Bool.and_true]
end Go.Proofs.YtogdjbhjgbnicaaGreatDoor.KeysN