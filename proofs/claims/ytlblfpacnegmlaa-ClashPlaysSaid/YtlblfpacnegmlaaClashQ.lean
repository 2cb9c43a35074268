import Derived.Test.YtlblfpacnegmlaaClashP
set_option linter.unusedVariables false
set_option linter.unusedSimpArgs false
namespace Go.Proofs.Ytlblfpacnegmlaa.ClashQ
open Go.RowKit
open Byte KeysM TreeM ViewM ClashM Lst Chg TreeR TreeL ViewR ViewL Nest ClashL ClashP
open Tx (txE)
open Own (keeps)
def seenM (R : List ByteArray) (G : List (ByteArray × ByteArray)) (l : List (List Pr)) (a : Nat) : Bool := (l.drop a).any (clashM R G)
def partM (R : List ByteArray) (G : List (ByteArray × ByteArray)) (l : List (List Pr)) (a b : Nat) : Bool := ((l.drop a).take (b - a)).any (clashM R G)
theorem part_zero (R : List ByteArray) (G : List (ByteArray × ByteArray)) (l : List (List Pr)) (a : Nat) : partM R G l a a = false := by simp [partM]
theorem part_next {R : List ByteArray} {G : List (ByteArray × ByteArray)} {l : List (List Pr)} {a b : Nat} {W : List Pr} (hab : a ≤ b) (h : l[b]? = some W) : partM R G l a (b + 1) = (partM R G l a b || clashM R G W) := by
 unfold partM
 rw [show b + 1 - a = (b - a) + 1 by omega]
 exact any_next (by rw [List.getElem?_drop,show a + (b - a) = b by omega]; exact h) _
theorem part_all {R : List ByteArray} {G : List (ByteArray × ByteArray)} {l : List (List Pr)} {a b : Nat} (h : l.length ≤ b) : partM R G l a b = seenM R G l a := by
 unfold partM seenM
 rw [List.take_of_length_le (by rw [List.length_drop]; omega)]
theorem seen_none {R : List ByteArray} {G : List (ByteArray × ByteArray)} {l : List (List Pr)} {a : Nat} (h : l.length ≤ a) : seenM R G l a = false := by
 unfold seenM
 rw [List.drop_of_length_le h]
 rfl
def forgetM (g now n : Nat) : Nat := max g (min n now)
theorem forget_bd {g now n : Nat} (h : g ≤ now) : forgetM g now n ≤ now ∧ g ≤ forgetM g now n := by
 unfold forgetM
 omega
abbrev keysOf (s : Vs) : List ByteArray := s.rd.map Pr.key
theorem reads_tx {w : World} {A : Option Addr} {n : Nat} {L : List Pr} (h : Sl rdE w A n L) : Sl txE w A n (L.map Pr.key) := by
 refine ⟨by rw [List.length_map]; exact h.1,fun j x hj => ?_⟩
 rw [List.getElem?_map] at hj
 obtain ⟨p,hp,rfl⟩ := Option.map_eq_some_iff.1 hj
 exact h.2 j p hp
abbrev HRep := World → Value → List (List Pr) → Nat → (Nat → Prop) → Prop
structure HStay (Rep : HRep) : Prop where
 stay : ∀ {w w' h l g} {T Q : Nat → Prop},Rep w h l g T → Chg Q w w' → (∀ b,Q b → ¬ T b) → Rep w' h l g T
 lt : ∀ {w h l g} {T : Nat → Prop},Rep w h l g T → ∀ b,T b → b < w.heap.size
 some_ : ∀ {w h l g} {T : Nat → Prop},Rep w h l g T → ∃ b,h = .pointer (some ⟨b,0,none⟩)
 le : ∀ {w h l g} {T : Nat → Prop},Rep w h l g T → g ≤ l.length
def HNewOk (Rep : HRep) : Prop := ∀ w : World,Calls Try.prog 10 #[] w fun e w' => ∃ h T,e = .returned h ∧ Rep w' h [] 0 T ∧ (∀ b,T b → w.heap.size ≤ b) ∧ Below w.heap.size w w'
def HAddOk (Rep : HRep) : Prop := ∀ ⦃w h l g T⦄ (A : Option Addr) (n c : Nat) (W : List Pr),Rep w h l g T → l.length ≤ 300 → Sl prE w A n W → n ≤ 300 →
 Calls Try.prog 12 #[h,.slice A n c] w fun e w' => ∃ T',e = .returned (.int .u64 (l.length + 1)) ∧ Rep w' h (l ++ [W]) g T' ∧ Chg T w w' ∧ Kept w w' ∧ Grow w T T'
def HForgetOk (Rep : HRep) : Prop := ∀ ⦃w h l g T⦄ (n : Nat),Rep w h l g T → l.length ≤ 301 → n ≤ 18446744073709551615 →
 Calls Try.prog 13 #[h,.int .u64 n] w fun e w' => ∃ T',e = .returned (.tuple #[]) ∧ Rep w' h l (forgetM g l.length n) T' ∧ Chg T w w' ∧ Kept w w' ∧ Grow w T T'
def HClashOk (Rep : HRep) (VRep : World → Value → Vs → (Nat → Prop) → (Nat → Prop) → Prop) : Prop := ∀ ⦃w h l g T v s S D⦄ (n : Nat),Rep w h l g T → l.length ≤ 301 → n ≤ 18446744073709551615 → VRep w v s S D → Lim s → (∀ t ∈ keysOf s,t.size ≤ 140737488351232) →
 Calls Try.prog 14 #[h,.int .u64 n,v] w fun e w' => e = .returned (.tuple #[.bool (seenM (keysOf s) s.rg l (max n g)),.bool (decide (g ≤ n) || decide (l.length ≤ n))]) ∧ Below w.heap.size w w'
def HNowOk (Rep : HRep) : Prop := ∀ ⦃w h l g T⦄,Rep w h l g T → l.length ≤ 301 → Calls Try.prog 17 #[h] w fun e w' => e = .returned (.int .u64 l.length) ∧ Below w.heap.size w w'
def HLenOk (Rep : HRep) : Prop := ∀ ⦃w h l g T⦄,Rep w h l g T → l.length ≤ 301 → Calls Try.prog 18 #[h] w fun e w' => e = .returned (.int .i64 ((l.length : Int) - g)) ∧ Below w.heap.size w w'
structure HNil (VRep : World → Value → Vs → (Nat → Prop) → (Nat → Prop) → Prop) : Prop where
 forget : ∀ w : World,Calls Try.prog 13 #[.pointer none,.int .u64 3] w fun e w' => e = .returned (.tuple #[]) ∧ Below w.heap.size w w'
 clash : ∀ ⦃w v s S D⦄,VRep w v s S D → Lim s → Calls Try.prog 14 #[.pointer none,.int .u64 0,v] w fun e w' => e = .returned (.tuple #[.bool false,.bool true]) ∧ Below w.heap.size w w'
 add : ∀ w : World,Calls Try.prog 12 #[.pointer none,.slice none 0 0] w fun e w' => e = .returned (.int .u64 0) ∧ Below w.heap.size w w'
 now : ∀ w : World,Calls Try.prog 17 #[.pointer none] w fun e w' => e = .returned (.int .u64 0) ∧ Below w.heap.size w w'
 len : ∀ w : World,Calls Try.prog 18 #[.pointer none] w fun e w' => e = .returned (.int .i64 0) ∧ Below w.heap.size w w'
structure Hst (Rep : HRep) (VRep : World → Value → Vs → (Nat → Prop) → (Nat → Prop) → Prop) : Prop where
 stays : HStay Rep
 new : HNewOk Rep
 add : HAddOk Rep
 forget : HForgetOk Rep
 clash : HClashOk Rep VRep
 now : HNowOk Rep
 len : HLenOk Rep
structure Both (Rep : HRep) (VRep : World → Value → Vs → (Nat → Prop) → (Nat → Prop) → Prop) (B : Nat) (w : World) (h : Value) (l : List (List Pr)) (g : Nat) (T : Nat → Prop) (v : Value) (s : Vs) (S D : Nat → Prop) : Prop where
 his : Rep w h l g T
 old : ∀ b,T b → B ≤ b
 view : Lk VRep B w v s S D 100 100
 off : ∀ b,T b → ¬ D b
section
variable {Rep : HRep} {VRep : World → Value → Vs → (Nat → Prop) → (Nat → Prop) → Prop} {B : Nat} {w w' : World} {h v : Value} {l l' : List (List Pr)} {g g' : Nat} {T T' S D : Nat → Prop} {s : Vs}
theorem Both.below (hH : HStay Rep) (hV : Stays VRep) (k : Both Rep VRep B w h l g T v s S D) (hb : Below w.heap.size w w') : Both Rep VRep B w' h l g T v s S D :=
 ⟨hH.stay (Q := fun _ => False) k.his (Chg.of_below hb) (fun _ x => x.elim),k.old,⟨hV.below k.view.rep hb,k.view.base,k.view.rd,k.view.rg,k.view.own,k.view.dep,k.view.sz⟩,k.off⟩
theorem Both.step (hV : Stays VRep) (k : Both Rep VRep B w h l g T v s S D) (hr : Rep w' h l' g' T') (hc : Chg T w w') (hk : Kept w w') (hg : Grow w T T') (hB : B ≤ w.heap.size) : Both Rep VRep B w' h l' g' T' v s S D :=
 ⟨hr,new_own k.old hB hg,⟨hV.stay k.view.rep hc k.off hk,k.view.base,k.view.rd,k.view.rg,k.view.own,k.view.dep,k.view.sz⟩,fun b hb hd => by
   rcases hg b hb with h1 | h1
   ·exact k.off b h1 hd
   ·have := hV.lt k.view.rep b hd
    omega⟩
theorem Both.far (hH : HStay Rep) (hV : Stays VRep) (k : Both Rep VRep B w h l g T v s S D) {Q : Nat → Prop} (hc : Chg Q w w') (hk : Kept w w') (h1 : ∀ b,Q b → ¬ T b) (h2 : ∀ b,Q b → ¬ D b) : Both Rep VRep B w' h l g T v s S D :=
 ⟨hH.stay k.his hc h1,k.old,⟨hV.stay k.view.rep hc h2 hk,k.view.base,k.view.rd,k.view.rg,k.view.own,k.view.dep,k.view.sz⟩,k.off⟩
end
end Go.Proofs.Ytlblfpacnegmlaa.ClashQ