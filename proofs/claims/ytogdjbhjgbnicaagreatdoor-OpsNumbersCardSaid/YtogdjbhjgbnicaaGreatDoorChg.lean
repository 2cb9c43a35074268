import Derived.Test.YtogdjbhjgbnicaaGreatDoorLst
set_option linter.unusedVariables false
set_option linter.unusedSimpArgs false
namespace Go.Proofs.YtogdjbhjgbnicaaGreatDoor.Chg
open Go.RowKit
open Byte Own Lst
structure Chg (S : Nat → Prop) (w w' : World) : Prop where
 os : w'.os = w.os
 tape : w'.tape = w.tape
 output : w'.output = w.output
 size : w.heap.size ≤ w'.heap.size
 block : ∀ k,k < w.heap.size → ¬ S k → w'.heap[k]? = w.heap[k]?
section
variable {S : Nat → Prop} {a b c w w' : World}
theorem Chg.refl (S : Nat → Prop) (w : World) : Chg S w w := ⟨rfl,rfl,rfl,Nat.le_refl _,fun _ _ _ => rfl⟩
theorem Chg.trans (h : Chg S a b) (k : Chg S b c) : Chg S a c :=
 ⟨k.os.trans h.os,k.tape.trans h.tape,k.output.trans h.output,Nat.le_trans h.size k.size,fun i hi hn => (k.block i (Nat.lt_of_lt_of_le hi h.size) hn).trans (h.block i hi hn)⟩
theorem Chg.mono {T : Nat → Prop} (h : Chg S a b) (hs : ∀ k,k < a.heap.size → S k → T k) : Chg T a b :=
 ⟨h.os,h.tape,h.output,h.size,fun i hi hn => h.block i hi (fun hk => hn (hs i hi hk))⟩
theorem Chg.drew (h : Chg S a b) : Chg S a b.drew := ⟨h.os,h.tape,h.output,h.size,h.block⟩
theorem Chg.alloc (h : Chg S a b) (o : Obj) : Chg S a (b.alloc o) :=
 h.trans ⟨rfl,rfl,rfl,by simp,fun k hk _ => Below.heap_alloc _ _ _ hk⟩
theorem Chg.setCell (h : Chg S a b) {p : Addr} (hp : S p.block ∨ a.heap.size ≤ p.block) (u : Value) : Chg S a (b.setCell p u) :=
 ⟨h.os,h.tape,h.output,by simpa [World.setCell] using h.size,fun k hk hn => (Below.heap_setCell _ _ _ _ (by
   rintro rfl
   rcases hp with hp | hp
   ·exact hn hp
   ·omega)).trans (h.block k hk hn)⟩
theorem Chg.own {d : Nat} (h : Chg (fun k => k = d) a b) (i : Nat) (u : Value) : Chg (fun k => k = d) a (b.setCell ⟨d,i,none⟩ u) := h.setCell (.inl rfl) u
theorem Chg.of_below (h : Below a.heap.size a b) : Chg S a b := ⟨h.os,h.tape,h.output,h.size,fun k hk _ => h.block k hk⟩
theorem Chg.of_grown {row : Option Nat} (h : a.grownBy b row) (hs : ∀ k,row = some k → S k ∨ a.heap.size ≤ k) : Chg S a b :=
 ⟨h.os,h.tape,h.output,h.size,fun k hk hn => h.block k hk (fun e => by
   rcases hs k e.symm with h1 | h1
   ·exact hn h1
   ·omega)⟩
theorem Chg.then_ {T : Nat → Prop} (h : Chg S a b) (k : Chg T b c) (ht : ∀ i,i < a.heap.size → T i → S i) : Chg S a c :=
 ⟨k.os.trans h.os,k.tape.trans h.tape,k.output.trans h.output,Nat.le_trans h.size k.size,fun i hi hn => (k.block i (Nat.lt_of_lt_of_le hi h.size) (fun hk => hn (ht i hi hk))).trans (h.block i hi hn)⟩
end
theorem Chg.cell {S : Nat → Prop} {w w' : World} (h : Chg S w w') {p : Addr} {v : Value} (hc : w.cell? p = some v) (hn : ¬ S p.block) : w'.cell? p = some v :=
 (World.cell?_of_block (w := w) (h.block p.block (World.block_lt_of_cell? w p hc) hn)).trans hc
theorem Sl.chg {α : Type} {e : Enc α} {S : Nat → Prop} {w w' : World} {A : Option Addr} {n : Nat} {L : List α} (h : Sl e w A n L) (k : Chg S w w') (hA : ∀ b o,A = some ⟨b,o,none⟩ → ¬ S b) : Sl e w' A n L := by
 refine ⟨h.1,fun j x hj => ?_⟩
 obtain ⟨b,o,e1,hlt,hc⟩ := h.2 j x hj
 exact ⟨b,o,e1,Nat.lt_of_lt_of_le hlt k.size,fun i v hv => k.cell (p := ⟨b,o + j * e.size + i,none⟩) (hc i v hv) (hA b o e1)⟩
def Grow (w : World) (S S' : Nat → Prop) : Prop := ∀ b,S' b → S b ∨ w.heap.size ≤ b
theorem Grow.refl (w : World) (S : Nat → Prop) : Grow w S S := fun b h => .inl h
theorem Grow.trans {w w' : World} {S S' T : Nat → Prop} (h : Grow w S S') (k : Grow w' S' T) (hs : w.heap.size ≤ w'.heap.size) : Grow w S T := fun b hb => by
 rcases k b hb with h1 | h1
 ·exact h b h1
 ·exact .inr (Nat.le_trans hs h1)
end Go.Proofs.YtogdjbhjgbnicaaGreatDoor.Chg