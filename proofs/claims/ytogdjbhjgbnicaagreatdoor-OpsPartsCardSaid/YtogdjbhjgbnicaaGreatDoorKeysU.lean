import Derived.Test.YtogdjbhjgbnicaaGreatDoorSq
import Derived.Test.YtogdjbhjgbnicaaGreatDoorKeysL
import Derived.Laws.RangeString
import Derived.Laws.RangeAny
import Derived.LoopTactic
set_option maxHeartbeats 16000000
set_option linter.unusedVariables false
set_option linter.unusedSimpArgs false
set_option maxRecDepth 100000
namespace Go.Proofs.YtogdjbhjgbnicaaGreatDoor.KeysU
open Go.RowKit
open Byte KeysM KeysR KeysS KeysN KeysL
theorem rune_wide (s : ByteArray) (pos : Nat) (h : pos < s.size) : 0 < (Utf8.decode s pos).2 := by
 rcases Nat.lt_or_ge (s[pos]'h).toNat 128 with q | q
 ·simp [decode_ascii s pos h q]
 ·have := (decode_high s pos h q).2
  omega
theorem get_is (s : ByteArray) (k : Nat) (h : k < s.size) : (s.get! k).toNat = (s[k]'h).toNat := by
 have : s.get! k = s[k]'h := by
  show s.get! k = _
  simp [ByteArray.get!,getElem!_pos,h]
  rfl
 rw [this]
theorem cont_high (s : ByteArray) (pos j : Nat) (h : pos < s.size) (ha : 128 ≤ (s[pos]'h).toNat) (hj : 1 ≤ j) (hw : j < (Utf8.decode s pos).2) : pos + j < s.size ∧ (s.get! (pos + j)).toNat / 64 = 2 := by
 have hn : ¬ (s.get! (pos + 0)).toNat < 128 := by rw [Nat.add_zero,get_is s pos h]; omega
 revert hw
 unfold Utf8.decode
 simp only [hn,if_false]
 repeat' split
 all_goals
  intro hw
  first
   | (exfalso; dsimp only at hw; omega)
   | (have h1 : j = 1 ∨ j = 2 ∨ j = 3 := by (dsimp only at hw; omega)
      rcases h1 with rfl | rfl | rfl <;> simp_all <;> omega)
   | (have h1 : j = 1 ∨ j = 2 := by (dsimp only at hw; omega)
      rcases h1 with rfl | rfl <;> simp_all)
   | (have h1 : j = 1 := by (dsimp only at hw; omega)
      subst h1
      simp_all)
theorem rune_step (s : ByteArray) (pos : Nat) (h : pos < s.size) (h0 : (Utf8.decode s pos).1 ≠ 0) (h1 : (Utf8.decode s pos).1 ≠ 47) (j : Nat) (hj : pos ≤ j) (hw : j < pos + (Utf8.decode s pos).2) (hs : j < s.size) : (txt s).getD j 0 ≠ 0 ∧ (txt s).getD j 0 ≠ 47 := by
 rw [key_at s j hs]
 by_cases ha : (s[pos]'h).toNat < 128
 ·rw [decode_ascii s pos h ha] at h0 h1 hw
  obtain rfl : j = pos := by dsimp only at hw; omega
  dsimp only at h0 h1
  omega
 ·rcases Nat.eq_or_lt_of_le hj with rfl | hj'
  ·omega
  ·have := (cont_high s pos (j - pos) h (by omega) (by omega) (by omega)).2
   rw [show pos + (j - pos) = j by omega,get_is s j hs] at this
   omega
theorem rune_bad (s : ByteArray) (pos : Nat) (h : pos < s.size) (h0 : (Utf8.decode s pos).1 = 0 ∨ (Utf8.decode s pos).1 = 47) : (txt s).getD pos 0 = 0 ∨ (txt s).getD pos 0 = 47 := by
 rw [key_at s pos h]
 by_cases ha : (s[pos]'h).toNat < 128
 ·rw [decode_ascii s pos h ha] at h0
  dsimp only at h0
  omega
 ·have := (decode_high s pos h (by omega)).1
  omega
theorem list_ne {s : ByteArray} (h : 0 < s.size) : ¬ s.toList = [] := by
 intro e
 have := congrArg List.length e
 rw [toList_d] at this
 have hz : s.data.toList.length = s.size := by rw [Array.length_toList]; rfl
 rw [hz] at this
 have h9 : s.size = 0 := this
 omega
theorem list_is {s : ByteArray} (l : List UInt8) (h : s.toList = l) : s = ⟨l.toArray⟩ := by
 rw [toList_d] at h
 apply ByteArray.ext
 apply Array.ext'
 rw [h]
theorem name_rest (s : ByteArray) (w : World) (h0 : 0 < s.size) (h1 : s.size ≤ 32) (h2 : (s.toList == [46]) = false) (h3 : (s.toList == [46,46]) = false) :
 Calls Tryz.prog 163 #[.string s] w fun e w' => e = .returned (.bool (nameOk s)) ∧ Below w.heap.size w w' := by
 obtain ⟨B,hB⟩ : ∃ b,nameOk s = b := ⟨_,rfl⟩
 have HBB := hQ_ hB
 rw [hB]
 clear hB
 have n1 := list_ne h0
 have n2 : s.toList.isEmpty = false := by rw [List.isEmpty_eq_false_iff]; exact n1
 have n3 : (s.toList == []) = false := by rw [beq_eq_false_iff_ne]; exact n1
 have d : decide ((32 : Int) < (s.size : Int)) = false := by simp; omega
 have d1 : decide ((s.size : Int) < 1) = false := by simp; omega
 have H2 := hQ_ h2
 have H3 := hQ_ h3
 have hb : ∀ pos,Below w.heap.size w (w.iter s pos) := fun pos => bW_
 have HB := hQ_ hb
 clear hb
 go_enter Tryz.func163,Tryz.ntmps163
 go_wp2
 go_loopw [4] (fun r w' => ∃ pos : Nat,w' = w.iter s pos ∧ Hid (∀ j,j < pos → j < s.size → (txt s).getD j 0 ≠ 0 ∧ (txt s).getD j 0 ≠ 47)) (fun _ w' => s.size - w'.iterPos w.heap.size)
 case atStart => exact ⟨0,rfl,hQ_ (fun j hj => by omega)⟩
 case round =>
  obtain ⟨pos,rfl,HK⟩ := hrel
  by_cases hp : pos < s.size
  ·have hnx : ∀ ty,(Instr.next (.pointer (some ⟨w.heap.size,0,none⟩)) true ty).run Tryz.prog (w.iter s pos) = _ := fun ty => run_next_any w s pos ty hp
   have hwd := rune_wide s pos hp
   go_wp2
   ·have hc : ((Utf8.decode s pos).1 : Int) = 0 := by assumption
    have hbad := name_bad hp (rune_bad s pos hp (.inl (by omega)))
    rw [HBB.out] at hbad
    subst hbad
    go_ret
    exact ⟨rfl,HB.out _⟩
   ·have hc : (((Utf8.decode s pos).1 : Int) == 47) = true := by assumption
    rw [beq_iff_eq] at hc
    have hbad := name_bad hp (rune_bad s pos hp (.inr (by omega)))
    rw [HBB.out] at hbad
    subst hbad
    go_ret
    exact ⟨rfl,HB.out _⟩
   ·have q1 : ¬ ((Utf8.decode s pos).1 : Int) = 0 := by assumption
    have q2 : (((Utf8.decode s pos).1 : Int) == 47) = false := by assumption
    rw [beq_eq_false_iff_ne] at q2
    go_roundw
    case rel => exact ⟨pos + (Utf8.decode s pos).2,rfl,hQ_ (fun j hj hs => (by
     rcases Nat.lt_or_ge j pos with h | h
     ·exact HK.out j h hs
     ·exact rune_step s pos hp (by omega) (by omega) j h hj hs))⟩
    case measure =>
     simp
     omega
  ·have hnx : ∀ ty,(Instr.next (.pointer (some ⟨w.heap.size,0,none⟩)) true ty).run Tryz.prog (w.iter s pos) = _ := fun ty => run_next_end w s pos ty hp
   go_wp2
   go_ret
   have hall := name_all (s := s) (fun j hj => HK.out j (by omega) hj)
   rw [HBB.out] at hall
   refine ⟨ret_bool ?_,HB.out pos⟩
   rw [hall,H2.out,H3.out]
   simp [h0,h1]
theorem name_size (s : ByteArray) (w : World) (h : s.size < 1 ∨ 32 < s.size) (hk : s.size ≤ 100000) : Calls Tryz.prog 163 #[.string s] w fun e w' => e = .returned (.bool (nameOk s)) ∧ Below w.heap.size w w' := by
 have e : nameOk s = false := by
  unfold nameOk
  rcases h with h | h
  ·have : decide (0 < s.size) = false := decide_eq_false (by omega)
   simp [this]
  ·have : decide (s.size ≤ 32) = false := decide_eq_false (by omega)
   simp [this]
 rw [e]
 rcases h with h | h
 ·have d1 : decide ((s.size : Int) < 1) = true := by simp; omega
  clear h e
  go_enter Tryz.func163,Tryz.ntmps163
  go_wp2_with fail
  go_ret
  exact ⟨rfl,Below.refl _ _⟩
 ·have d : decide ((32 : Int) < (s.size : Int)) = true := by simp; omega
  have d1 : decide ((s.size : Int) < 1) = false := by simp; omega
  clear h e
  go_enter Tryz.func163,Tryz.ntmps163
  go_wp2_with fail
  go_ret
  exact ⟨rfl,Below.refl _ _⟩
theorem name_dots (s : ByteArray) (w : World) (h : s.toList = [46] ∨ s.toList = [46,46]) : Calls Tryz.prog 163 #[.string s] w fun e w' => e = .returned (.bool (nameOk s)) ∧ Below w.heap.size w w' := by
 rcases h with h | h
 ·obtain rfl := list_is _ h
  have e : nameOk ⟨#[46]⟩ = false := by decide +kernel
  show Calls Tryz.prog 163 #[.string ⟨#[46]⟩] w fun e w' => e = .returned (.bool (nameOk ⟨#[46]⟩)) ∧ Below w.heap.size w w'
  rw [e]
  clear h e
  go_enter Tryz.func163,Tryz.ntmps163
  go_wp2_with fail
  go_ret
  exact ⟨rfl,Below.refl _ _⟩
 ·obtain rfl := list_is _ h
  have e : nameOk ⟨#[46,46]⟩ = false := by decide +kernel
  show Calls Tryz.prog 163 #[.string ⟨#[46,46]⟩] w fun e w' => e = .returned (.bool (nameOk ⟨#[46,46]⟩)) ∧ Below w.heap.size w w'
  rw [e]
  clear h e
  go_enter Tryz.func163,Tryz.ntmps163
  go_wp2_with fail
  go_ret
  exact ⟨rfl,Below.refl _ _⟩
theorem name_calls : NameOk := by
 intro s w hs
 by_cases h : s.size < 1 ∨ 32 < s.size
 ·exact name_size s w h hs
 by_cases h1 : s.toList = [46]
 ·exact name_dots s w (.inl h1)
 by_cases h2 : s.toList = [46,46]
 ·exact name_dots s w (.inr h2)
 exact name_rest s w (by omega) (by omega) (beq_eq_false_iff_ne.2 h1) (beq_eq_false_iff_ne.2 h2)
end Go.Proofs.YtogdjbhjgbnicaaGreatDoor.KeysU