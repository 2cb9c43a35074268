import Derived.Test.YtfalhnomhidkcaaGreatDoorViewM
set_option linter.unusedVariables false
set_option linter.unusedSimpArgs false
namespace Go.Proofs.YtfalhnomhidkcaaGreatDoor.ViewKm
open Byte KeysM TreeM ViewM
theorem mem_cut {l : List Pr} {k : ByteArray} {q : Pr} : q ∈ cutL k l ↔ q ∈ l ∧ q.key ≠ k := by
 unfold cutL
 rw [List.mem_filter]
 simp
theorem mem_put' {l : List Pr} {k v : ByteArray} {q : Pr} : q ∈ putL k v l ↔ q = ⟨k,v,false⟩ ∨ (q ∈ l ∧ q.key ≠ k) :=
 ⟨mem_put,fun h => by
   rcases h with rfl | ⟨h1,h2⟩
   ·exact put_new _ _ _
   ·exact put_mem h1 h2⟩
theorem mem_putP' {l : List Pr} {p q : Pr} : q ∈ putP p l ↔ q = p ∨ (q ∈ l ∧ q.key ≠ p.key) :=
 ⟨mem_putP,fun h => by
   rcases h with rfl | ⟨h1,h2⟩
   ·exact putP_new _ _
   ·exact putP_mem h1 h2⟩
theorem mem_done {l : List Pr} {w q : Pr} : q ∈ doneW l w ↔ (w.gone = false ∧ q = ⟨w.key,w.value,false⟩) ∨ (q ∈ l ∧ q.key ≠ w.key) := by
 unfold doneW
 cases h : w.gone with
 | true => simp [mem_cut]
 | false => simp [mem_put']
theorem mem_shown {W : List Pr} : ∀ {B : List Pr} (hW : Rise W) {q : Pr},q ∈ shownL B W ↔ (∃ w ∈ W,w.gone = false ∧ q = ⟨w.key,w.value,false⟩) ∨ (q ∈ B ∧ ∀ w ∈ W,q.key ≠ w.key) := by
 induction W with
 | nil => intro B hW q; simp [shownL]
 | cons w W ih =>
   intro B hW q
   have hW' := hW
   unfold Rise at hW'
   rw [List.pairwise_cons] at hW'
   have e : shownL B (w :: W) = shownL (doneW B w) W := rfl
   rw [e,ih (B := doneW B w) hW'.2,mem_done]
   constructor
   ·rintro (⟨x,hx,h1,h2⟩ | ⟨⟨h1,h2⟩ | ⟨h1,h2⟩,h3⟩)
    ·exact .inl ⟨x,List.mem_cons_of_mem _ hx,h1,h2⟩
    ·exact .inl ⟨w,List.mem_cons_self,h1,h2⟩
    ·exact .inr ⟨h1,fun x hx => by
      rcases List.mem_cons.1 hx with rfl | hx
      ·exact h2
      ·exact h3 x hx⟩
   ·rintro (⟨x,hx,h1,h2⟩ | ⟨h1,h2⟩)
    ·rcases List.mem_cons.1 hx with rfl | hx
     ·refine .inr ⟨.inl ⟨h1,h2⟩,fun y hy => ?_⟩
      subst h2
      exact kl_ne (hW'.1 y hy)
     ·exact .inl ⟨x,hx,h1,h2⟩
    ·exact .inr ⟨.inr ⟨h1,h2 w List.mem_cons_self⟩,fun y hy => h2 y (List.mem_cons_of_mem _ hy)⟩
theorem get_none {l : List Pr} {k : ByteArray} (h : getL k l = none) : ∀ q ∈ l,q.key ≠ k := fun q hq e => by
 unfold getL at h
 have := List.find?_eq_none.1 h q hq
 simp [e] at this
theorem get_none' {l : List Pr} {k : ByteArray} (h : ∀ q ∈ l,q.key ≠ k) : getL k l = none := by
 unfold getL
 rw [List.find?_eq_none]
 intro q hq
 simp [h q hq]
theorem get_mem {l : List Pr} (hr : Rise l) {p : Pr} (h : p ∈ l) : getL p.key l = some p := by
 obtain ⟨i,hi,rfl⟩ := List.mem_iff_getElem.1 h
 exact TreeM.get_at hr (List.getElem?_eq_getElem hi)
theorem shown_write {B W : List Pr} (hB : Rise B) (hW : Rise W) (p : Pr) : shownL B (writeW B W p) = doneW (shownL B W) p := by
 have hS := rise_shown hB W
 refine rise_ext (rise_shown hB _) (rise_done hS p) fun q => ?_
 rw [mem_shown (rise_write hW p),mem_done,mem_shown hW]
 unfold writeW
 cases hc : (p.gone && (getL p.key B).isNone) with
 | true =>
   rw [if_pos rfl]
   rw [Bool.and_eq_true] at hc
   obtain ⟨hg,hn⟩ := hc
   have hB' := get_none (Option.isNone_iff_eq_none.1 hn)
   simp only [mem_cut,hg]
   constructor
   ·rintro (⟨x,⟨hx,h3⟩,h1,rfl⟩ | ⟨h1,h2⟩)
    ·exact .inr ⟨.inl ⟨x,hx,h1,rfl⟩,h3⟩
    ·refine .inr ⟨.inr ⟨h1,fun x hx => ?_⟩,hB' q h1⟩
     by_cases hk : x.key = p.key
     ·rw [hk]
      exact hB' q h1
     ·exact h2 x ⟨hx,hk⟩
   ·rintro (⟨h1,_⟩ | ⟨⟨x,hx,h1,rfl⟩ | ⟨h1,h2⟩,h3⟩)
    ·cases h1
    ·exact .inl ⟨x,⟨hx,h3⟩,h1,rfl⟩
    ·exact .inr ⟨h1,fun x hx => h2 x hx.1⟩
 | false =>
   rw [if_neg (by decide)]
   simp only [mem_putP']
   constructor
   ·rintro (⟨x,rfl | ⟨hx,h3⟩,h1,rfl⟩ | ⟨h1,h2⟩)
    ·exact .inl ⟨h1,rfl⟩
    ·exact .inr ⟨.inl ⟨x,hx,h1,rfl⟩,h3⟩
    ·refine .inr ⟨.inr ⟨h1,fun x hx => ?_⟩,h2 p (.inl rfl)⟩
     by_cases hk : x.key = p.key
     ·rw [hk]
      exact h2 p (.inl rfl)
     ·exact h2 x (.inr ⟨hx,hk⟩)
   ·rintro (⟨h1,rfl⟩ | ⟨⟨x,hx,h1,rfl⟩ | ⟨h1,h2⟩,h3⟩)
    ·exact .inl ⟨p,.inl rfl,h1,rfl⟩
    ·exact .inl ⟨x,.inr ⟨hx,h3⟩,h1,rfl⟩
    ·refine .inr ⟨h1,fun x hx => ?_⟩
     rcases hx with rfl | hx
     ·exact h3
     ·exact h2 x hx.1
def kp (p : Pr) : Pr := ⟨p.key,⟨#[]⟩,false⟩
def kys (W : List Pr) : List Pr := W.map kp
theorem kys_len (W : List Pr) : (kys W).length = W.length := by simp [kys]
theorem kys_put (p : Pr) (W : List Pr) : kys (putP p W) = putL p.key ⟨#[]⟩ (kys W) := by
 unfold kys putP putL
 simp only [List.map_append,List.map_cons,List.filter_map]
 rfl
theorem kys_cut (k : ByteArray) (W : List Pr) : kys (cutL k W) = cutL k (kys W) := by
 unfold kys cutL
 simp only [List.filter_map]
 rfl
theorem kys_in (k : ByteArray) (W : List Pr) : (getL k (kys W)).isSome = inW k W := by
 unfold inW getL kys
 rw [List.find?_map]
 cases h : List.find? ((fun p => decide (p.key = k)) ∘ kp) W with
 | none =>
   have : List.find? (fun p => decide (p.key = k)) W = none := h
   rw [this]; rfl
 | some q =>
   have : List.find? (fun p => decide (p.key = k)) W = some q := h
   rw [this]; rfl
def Bare (W : List Pr) : Prop := ∀ p ∈ W,p.gone = true → p.value = ⟨#[]⟩
theorem Bare.nil : Bare [] := fun p hp => by cases hp
theorem Bare.write {B W : List Pr} (h : Bare W) {p : Pr} (hp : p.gone = true → p.value = ⟨#[]⟩) : Bare (writeW B W p) := fun q hq hg => by
 unfold writeW at hq
 split at hq
 ·exact h q (mem_cut.1 hq).1 hg
 ·rcases mem_putP hq with rfl | ⟨h1,_⟩
  ·exact hp hg
  ·exact h q h1 hg
theorem put_is (k v : ByteArray) (B W : List Pr) : writeW B W ⟨k,v,false⟩ = putP ⟨k,v,false⟩ W := by
 unfold writeW
 rfl
theorem cut_is (k v : ByteArray) (B W : List Pr) : writeW B W ⟨k,v,true⟩ = if (getL k B).isSome then putP ⟨k,v,true⟩ W else cutL k W := by
 unfold writeW
 cases h : getL k B <;> simp
end Go.Proofs.YtfalhnomhidkcaaGreatDoor.ViewKm