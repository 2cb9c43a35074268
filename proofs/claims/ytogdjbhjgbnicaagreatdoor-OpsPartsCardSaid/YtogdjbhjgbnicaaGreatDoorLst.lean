import Derived.Test.YtogdjbhjgbnicaaGreatDoorOwn
import Derived.Maps.AppendAt
import Derived.Laws.OwnMore
import Derived.Deep.MidRow
import Derived.OwnWalk
set_option linter.unusedVariables false
namespace Go.Proofs.YtogdjbhjgbnicaaGreatDoor.Lst
open Go.RowKit
open Byte Own
structure Enc (α : Type) where
 cells : α → List Value
 size : Nat
 len : ∀ x,(cells x).length = size
 one : ∀ x,∀ u ∈ cells x,u.oneCell' = true
 pos : 0 < size
variable {α : Type}
def flat (e : Enc α) (L : List α) : List Value := L.flatMap e.cells
theorem flat_cons (e : Enc α) (x : α) (L : List α) : flat e (x :: L) = e.cells x ++ flat e L := rfl
theorem flat_append (e : Enc α) (L M : List α) : flat e (L ++ M) = flat e L ++ flat e M := List.flatMap_append
theorem flat_len (e : Enc α) (L : List α) : (flat e L).length = L.length * e.size := by
 induction L with
 | nil => simp [flat]
 | cons x L ih =>
   rw [flat_cons,List.length_append,ih,e.len,List.length_cons,Nat.add_mul,Nat.one_mul,Nat.add_comm]
theorem flat_get (e : Enc α) (L : List α) (j i : Nat) (x : α) (v : Value) (hj : L[j]? = some x) (hi : (e.cells x)[i]? = some v) : (flat e L)[j * e.size + i]? = some v := by
 induction L generalizing j with
 | nil => simp at hj
 | cons y L ih =>
   rw [flat_cons]
   cases j with
   | zero =>
     obtain rfl : y = x := by simpa using hj
     have hl : i < (e.cells y).length := (List.getElem?_eq_some_iff.1 hi).1
     rw [Nat.zero_mul,Nat.zero_add,List.getElem?_append_left hl]
     exact hi
   | succ j =>
     have h1 : (j + 1) * e.size + i = e.size + (j * e.size + i) := by rw [Nat.add_mul,Nat.one_mul]; omega
     rw [h1,List.getElem?_append_right (by rw [e.len]; omega),e.len,Nat.add_sub_cancel_left]
     exact ih j (by simpa using hj)
theorem flat_split (e : Enc α) (L : List α) (p : Nat) (v : Value) (h : (flat e L)[p]? = some v) : ∃ x,L[p / e.size]? = some x ∧ (e.cells x)[p % e.size]? = some v := by
 have hp := e.pos
 induction L generalizing p with
 | nil => simp [flat] at h
 | cons y L ih =>
   rw [flat_cons] at h
   rcases Nat.lt_or_ge p e.size with hq | hq
   ·rw [List.getElem?_append_left (by rw [e.len]; exact hq)] at h
    refine ⟨y,by rw [Nat.div_eq_of_lt hq]; rfl,by rw [Nat.mod_eq_of_lt hq]; exact h⟩
   ·rw [List.getElem?_append_right (by rw [e.len]; exact hq),e.len] at h
    obtain ⟨x,h1,h2⟩ := ih (p - e.size) h
    have e1 : p / e.size = (p - e.size) / e.size + 1 := Nat.div_eq_sub_div hp hq
    have e2 : p % e.size = (p - e.size) % e.size := Nat.mod_eq_sub_mod hq
    exact ⟨x,by rw [e1]; simpa using h1,by rw [e2]; exact h2⟩
def Sl (e : Enc α) (w : World) (A : Option Addr) (n : Nat) (L : List α) : Prop :=
 L.length = n ∧ ∀ j x,L[j]? = some x → ∃ b o,A = some ⟨b,o,none⟩ ∧ b < w.heap.size ∧ w.rangeAt b (o + j * e.size) (e.cells x)
section
variable {e : Enc α} {w w' : World} {A : Option Addr} {n : Nat} {L : List α}
theorem Sl.below (h : Sl e w A n L) (hb : Below w.heap.size w w') : Sl e w' A n L := ⟨h.1,fun j x hj => by
 obtain ⟨b,o,e1,hlt,hc⟩ := h.2 j x hj
 exact ⟨b,o,e1,Nat.lt_of_lt_of_le hlt hb.size,fun i v hv => (hb.cell (p := ⟨b,o + j * e.size + i,none⟩) hlt).trans (hc i v hv)⟩⟩
theorem Sl.nil_ (e : Enc α) (w : World) (A : Option Addr) : Sl e w A 0 [] := ⟨rfl,fun j x h => by simp at h⟩
theorem Sl.at_ {b o : Nat} (h : Sl e w (some ⟨b,o,none⟩) n L) (j : Nat) (x : α) (hj : L[j]? = some x) : b < w.heap.size ∧ w.rangeAt b (o + j * e.size) (e.cells x) := by
 obtain ⟨b',o',e1,hlt,hc⟩ := h.2 j x hj
 injection e1 with e1
 injection e1 with e1 e2
 subst e1
 subst e2
 exact ⟨hlt,hc⟩
theorem Sl.get (h : Sl e w A n L) (j : Nat) (hj : j < n) : ∃ x b o,L[j]? = some x ∧ A = some ⟨b,o,none⟩ ∧ b < w.heap.size ∧ w.rangeAt b (o + j * e.size) (e.cells x) := by
 have hl : j < L.length := by rw [h.1]; exact hj
 obtain ⟨b,o,h1,h2,h3⟩ := h.2 j _ (List.getElem?_eq_getElem hl)
 exact ⟨_,b,o,List.getElem?_eq_getElem hl,h1,h2,h3⟩
theorem Sl.drop {b o : Nat} (h : Sl e w (some ⟨b,o,none⟩) n L) (k : Nat) : Sl e w (some ⟨b,o + k * e.size,none⟩) (n - k) (L.drop k) := by
 refine ⟨by rw [List.length_drop,h.1],fun j x hj => ?_⟩
 rw [List.getElem?_drop] at hj
 obtain ⟨h1,h2⟩ := h.at_ (k + j) x hj
 refine ⟨b,o + k * e.size,rfl,h1,?_⟩
 rw [show o + k * e.size + j * e.size = o + (k + j) * e.size by rw [Nat.add_mul]; omega]
 exact h2
theorem Sl.take (h : Sl e w A n L) (k : Nat) (hk : k ≤ n) : Sl e w A k (L.take k) := by
 refine ⟨by rw [List.length_take,h.1]; omega,fun j x hj => ?_⟩
 have hl : j < k := by
  have := (List.getElem?_eq_some_iff.1 hj).1
  rw [List.length_take] at this
  omega
 rw [List.getElem?_take_of_lt hl] at hj
 exact h.2 j x hj
theorem Sl.one {b o : Nat} {x : α} (hb : b < w.heap.size) (hc : w.rangeAt b o (e.cells x)) : Sl e w (some ⟨b,o,none⟩) 1 [x] := by
 refine ⟨rfl,fun j y hj => ?_⟩
 match j,hj with
 | 0,hj =>
   simp at hj
   subst hj
   exact ⟨b,o,rfl,hb,by rw [Nat.zero_mul,Nat.add_zero]; exact hc⟩
theorem Sl.new_ (e : Enc α) (w : World) (T : TypeId) (x : α) (cs : Array Value) (hcs : cs.toList = e.cells x) : Sl e (w.alloc (.cells cs T)) (some ⟨w.heap.size,0,none⟩) 1 [x] := by
 refine Sl.one (by simp) fun i v hv => ?_
 have hh := heap_alloc_new w (.cells cs T)
 rw [Nat.zero_add,cell_of_row _ _ _ _ _ _ hh,← Array.getElem?_toList,hcs]
 exact hv
end
def So (e : Enc α) (T : TypeId) (w : World) (base : Nat) (v : Value) (n : Nat) (L : List α) : Prop := L.length = n ∧ w.ownsRow base T e.size v n (flat e L)
section
variable {e : Enc α} {T : TypeId} {w w' : World} {base : Nat} {v : Value} {n : Nat} {L : List α}
theorem So.nil_ (e : Enc α) (T : TypeId) (w : World) (base : Nat) : So e T w base (.slice none 0 0) 0 [] := ⟨rfl,by simp [flat],.inl ⟨rfl,rfl⟩⟩
theorem So.new_ (e : Enc α) (T : TypeId) (w : World) {base : Nat} (hb : base ≤ w.heap.size) : So e T (w.alloc (.cells #[] T)) base (.slice (some ⟨w.heap.size,0,none⟩) 0 0) 0 [] :=
 ⟨rfl,World.ownsRow_lit (size := e.size) w #[] 0 hb (by decide) (by simp)⟩
theorem So.lt (h : So e T w base v n L) {g : Nat} (hg : v.ownBlock = some g) : base ≤ g ∧ g < w.heap.size := h.2.lt g hg
theorem So.below (h : So e T w base v n L) (hb : Below w.heap.size w w') : So e T w' base v n L :=
 ⟨h.1,h.2.kept (row := none) ⟨hb.os,hb.tape,hb.output,hb.size,fun k hk _ => hb.block k hk⟩ (by
   cases hv : v.ownBlock with
   | none => exact .inl rfl
   | some g => exact .inr (by simp))⟩
theorem So.grown (h : So e T w base v n L) {row : Option Nat} (hg : w.grownBy w' row) (hne : v.ownBlock = none ∨ v.ownBlock ≠ row) : So e T w' base v n L :=
 ⟨h.1,h.2.kept hg hne⟩
theorem So.lower {base' : Nat} (h : So e T w base v n L) (hb : base' ≤ base) : So e T w base' v n L := by
 obtain ⟨h1,h2,h4⟩ := h
 refine ⟨h1,h2,?_⟩
 rcases h4 with h4 | ⟨g',cap',cur,e1,e2,rest⟩
 ·exact .inl h4
 ·exact .inr ⟨g',cap',cur,e1,Nat.le_trans hb e2,rest⟩
theorem So.form (h : So e T w base v n L) : (v = .slice none 0 0 ∧ n = 0) ∨ ∃ g cap,v = .slice (some ⟨g,0,none⟩) n cap ∧ base ≤ g ∧ g < w.heap.size ∧ n ≤ cap ∧ cap ≤ maxLen := by
 rcases h.2.2 with h1 | ⟨g,cap,cur,h1,h2,h3,h4,h5,_⟩
 ·exact .inl h1
 ·have := h.2.lt g (by rw [h1]; rfl)
  exact .inr ⟨g,cap,h1,h2,this.2,h4,h5⟩
theorem So.sl {A : Option Addr} {c : Nat} (h : So e T w base (.slice A n c) n L) : Sl e w A n L := by
 refine ⟨h.1,fun j x hj => ?_⟩
 have hl := (List.getElem?_eq_some_iff.1 hj).1
 rcases h.form with ⟨h1,h2⟩ | ⟨g,cap,h1,h2,h3,_⟩
 ·have := h.1
  omega
 ·injection h1 with h1 _ h4
  subst h1
  subst h4
  refine ⟨g,0,rfl,h3,fun i u hu => ?_⟩
  have := h.2.cells (g := g) rfl (j * e.size + i) u (flat_get e L j i x u hj hu)
  rw [Addr.add_mid] at this
  rw [Nat.add_assoc]
  exact this
theorem So.lit (e : Enc α) (T : TypeId) (w : World) {base : Nat} (L : List α) (cs : Array Value) (n : Nat) (hn : L.length = n) (hcs : cs.toList = flat e L) (hb : base ≤ w.heap.size) (hm : n ≤ maxLen) : So e T (w.alloc (.cells cs T)) base (.slice (some ⟨w.heap.size,0,none⟩) n n) n L := by
 refine ⟨hn,?_⟩
 rw [← hcs]
 refine World.ownsRow_lit (size := e.size) w cs n hb hm ?_
 have h1 : cs.toList.length = L.length * e.size := by rw [hcs,flat_len]
 rw [Array.length_toList] at h1
 rw [h1,hn]
theorem So.ne {β : Type} {f : Enc β} {U : TypeId} {base' m : Nat} {u : Value} {M : List β} (h : So e T w base v n L) (h' : So f U w base' u m M) (hne : T ≠ U) : v.ownBlock = none ∨ v.ownBlock ≠ u.ownBlock := by
 rcases h.2.2 with ⟨h1,_⟩ | ⟨g,cap,cur,h1,_,hg,_⟩
 ·left
  rw [h1]
  rfl
 ·rcases h'.2.2 with ⟨h2,_⟩ | ⟨g',cap',cur',h2,_,hg',_⟩
  ·right
   rw [h1,h2]
   simp [Value.ownBlock]
  ·right
   rw [h1,h2]
   simp only [Value.ownBlock,ne_eq,Option.some.injEq]
   rintro rfl
   rw [hg] at hg'
   injection hg' with hg'
   injection hg' with _ hg'
   exact hne hg'
theorem So.stays (h : So e T w base v n L) {w' : World} (hg : w.grownBy w' v.ownBlock) {b : Nat} {cs : Array Value} {U : TypeId} {fr : Nat × Nat} (hb : w.heap[b]? = some (.cells cs U fr)) (hne : U ≠ T) : w'.heap[b]? = some (.cells cs U fr) := by
 have hlt : b < w.heap.size := by
  rcases Nat.lt_or_ge b w.heap.size with h1 | h1
  ·exact h1
  ·rw [Array.getElem?_eq_none h1] at hb
   cases hb
 rw [hg.block b hlt ?_,hb]
 intro e1
 rcases h.2.2 with ⟨h1,_⟩ | ⟨g,cap,cur,h1,_,h3,_⟩
 ·rw [h1] at e1
  cases e1
 ·rw [h1] at e1
  have e2 : b = g := by injection e1
  subst e2
  rw [hb] at h3
  injection h3 with h3
  injection h3 with _ h3
  exact hne h3
end
section
variable {P : Program} {w : World}
theorem wpList_append_lst {ops : Array Oper} {rest : List Oper} {o : Oper} {a : Act} {Q : Exit → Act → World → Prop} (e : Enc α) (T : TypeId) (hgd : o.guard = none) (s x : Operand) (t : TypeId)
 (ho : o.op = .call { callee := .builtin .append,args := #[s,x],argTypes := #[t,t] }) (ht : P.underlying t = some (.slice T)) {z : Value} {bytes : Nat} (hinfo : (P.info? T).map (fun i => (i.zero,i.size,i.bytes)) = some (some z,e.size,bytes)) (hzs : z.cells.size = e.size)
 (base : Nat) (v : Value) (n : Nat) (L : List α) (hs : a.eval s = v) (hown : So e T w base v n L)
 (b of m c : Nat) (M : List α) (hx : a.eval x = .slice (some ⟨b,of,none⟩) m c) (hr : Sl e w (some ⟨b,of,none⟩) m M)
 (N : Nat) (hN : n + m = N) (K : List α) (hK : L ++ M = K) (h63 : N ≤ maxLen) (hbytes : N * bytes ≤ 140737488355328) (hbase : base ≤ w.heap.size)
 (h : ∀ v' w',So e T w' base v' N K → w.grownBy w' v.ownBlock → (v'.ownBlock = v.ownBlock ∨ v'.ownBlock = some w.heap.size) → (0 < m → v' ≠ .slice none 0 0) → wpList P ops Q rest (a.put o.dst v') w') :
 wpList P ops Q (o :: rest) a w := by
 subst hN
 subst hK
 obtain ⟨i,hi,hz0,hz1,hz2⟩ := info_parts hinfo
 refine wpList_append_own_at _ hgd s x _ ho base T i _ e.size bytes ht hi hz0 hz1 hz2 hzs e.pos _ n _ hs hown.2 ⟨b,of,none⟩ m c (flat e M) hx (by rw [flat_len,hr.1]) (fun j u hu => ?_) (fun u hu => ?_) h63 hbytes hbase ?_
 ·obtain ⟨y,h1,h2⟩ := flat_split e M j u hu
  rw [Addr.add_mid]
  have := (hr.at_ _ y h1).2 _ u h2
  have e1 : of + j / e.size * e.size + j % e.size = of + j := by
   have := Nat.div_add_mod j e.size
   rw [Nat.mul_comm] at this
   omega
  rw [e1] at this
  exact this
 ·obtain ⟨y,_,hy⟩ := List.mem_flatMap.1 hu
  exact e.one y u hy
 ·intro v' w' hown' hg hnil hat
  exact h v' w' ⟨by rw [List.length_append,hown.1,hr.1],by rw [flat_append]; exact hown'⟩ hg hat (fun hm e2 => by have := (hnil.1 e2).2; omega)
end
end Go.Proofs.YtogdjbhjgbnicaaGreatDoor.Lst