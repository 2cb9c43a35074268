import Derived.Test.YtogdjbhjgbnicaaGreatDoorByteS
import Derived.Laws.IdiomStrings
import Derived.ArgAppend
import Derived.Deep.AppendLies
set_option linter.unusedVariables false
namespace Go.Proofs.YtogdjbhjgbnicaaGreatDoor.ConvS
open Go.RowKit
open Byte
structure Fresh (w : World) (base g n cap : Nat) (xs : List Int) : Prop where
 bs : Bs w (some ⟨g,0,none⟩) n xs
 fit : n ≤ cap
 at_ : base ≤ g
 room : ∀ j,j < cap → (w.cell? ⟨g,j,none⟩).isSome = true ∧ w.frozen? ⟨g,j,none⟩ = false
section
variable {P : Program} {w w' : World} {base g n cap : Nat} {xs : List Int}
theorem conv_fresh (w : World) (src dst e : TypeId) (xs : List Int) (n : Nat) (hl : xs.length = n) (hx : ∀ x ∈ xs,0 ≤ x ∧ x ≤ 255) (hs : P.underlying src = some .string) (hd : P.underlying dst = some (.slice e)) (he : P.underlying e = some (.int .u8)) :
 ∃ cap w',(convert src dst (.string (str xs))).run P w = .ok (.slice (some ⟨w.heap.size,0,none⟩) n cap) w' ∧ Fresh w' w.heap.size w.heap.size n cap xs ∧ Below w.heap.size w w' := by
 have hsz : (str xs).size = n := by rw [str_size,hl]
 have hr := run_bytes_of_string (P := P) w src dst e (str xs) hs hd he
 have hge := grownCap_ge w (str xs).size 0 e
 generalize grownCap w (str xs).size 0 e = cap at hr hge
 rw [hsz] at hr hge
 have hrow : (bytesRow (str xs) cap).size = cap := by
  unfold bytesRow
  have : (str xs).data.size = n := hsz
  simp [this,hsz]
  omega
 have hcell : ∀ j,j < n → (bytesRow (str xs) cap)[j]? = some (.int .u8 (xs.getD j 0)) := fun j hj => by
  have h1 : j < (str xs).data.size := by rw [show (str xs).data.size = n from hsz]; exact hj
  have hj' : j < xs.length := by omega
  unfold bytesRow
  rw [Array.getElem?_append_left (by simpa using h1),Array.getElem?_map,Array.getElem?_eq_getElem h1,Option.map_some]
  have hb := hx _ (List.getElem_mem hj')
  have h2 : (str xs).data[j] = UInt8.ofNat (xs[j]).toNat := by simp [str]
  rw [h2,List.getD_eq_getElem?_getD,List.getElem?_eq_getElem hj',Option.getD_some]
  congr 2
  rw [UInt8.toNat_ofNat']
  omega
 refine ⟨cap,_,hr,?_,((Below.refl _ _).drew).alloc (Nat.le_refl _) _⟩
 have hh : (w.drew.alloc (.cells (bytesRow (str xs) cap) e ((bytesRow (str xs) cap).size,(bytesRow (str xs) cap).size + 1))).heap[w.heap.size]? = some (.cells (bytesRow (str xs) cap) e ((bytesRow (str xs) cap).size,(bytesRow (str xs) cap).size + 1)) := heap_alloc_new w.drew _
 refine ⟨⟨hl,hx,fun k hk => ⟨w.heap.size,0,rfl,?_,?_⟩⟩,hge,Nat.le_refl _,fun j hj => ⟨?_,?_⟩⟩
 ·rcases Nat.lt_or_ge w.heap.size (w.drew.alloc (.cells (bytesRow (str xs) cap) e ((bytesRow (str xs) cap).size,(bytesRow (str xs) cap).size + 1))).heap.size with h | h
  ·exact h
  ·rw [Array.getElem?_eq_none h] at hh
   cases hh
 ·rw [Nat.zero_add,cell_of_row _ _ _ _ _ _ hh]
  exact hcell k hk
 ·rw [cell_of_row _ _ _ _ _ _ hh,Array.getElem?_eq_getElem (by rw [hrow]; exact hj)]
  rfl
 ·unfold World.frozen?
  rw [hh]
  simp [hrow]
  omega
theorem wpList_conv {ops : Array Oper} {rest : List Oper} {o : Oper} {a : Act} {Q : Exit → Act → World → Prop} (hgd : o.guard = none) (s t : TypeId) (x : Operand) (ho : o.op = .convert s t x) (u v : Value) (hx : a.eval x = u) (hr : (convert s t u).run P w = .ok v w') (h : wpList P ops Q rest (a.put o.dst v) w') : wpList P ops Q (o :: rest) a w := by
 refine wpList_plain hgd fun K hK => ?_
 unfold Oper.wp execOp
 simp only [ho,hx,Sem.run_bind,hr,Result.andThen_ok,Sem.run_pure]
 exact hK _ _ h
end
end Go.Proofs.YtogdjbhjgbnicaaGreatDoor.ConvS