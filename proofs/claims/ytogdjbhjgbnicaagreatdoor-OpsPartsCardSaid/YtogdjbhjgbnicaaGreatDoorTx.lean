import Derived.Test.YtogdjbhjgbnicaaGreatDoorLst
import Derived.SizedLaws
import Derived.Maps.Views
import Derived.Test.YtogdjbhjgbnicaaGreatDoorProg
import Derived.OpenShut
import Derived.Deep.Slices
import Derived.ChangeSlices
import Derived.ChangeArms
import Derived.WideShapes
set_option linter.unusedVariables false
set_option linter.unusedSimpArgs false
set_option maxRecDepth 100000
namespace Go.Proofs.YtogdjbhjgbnicaaGreatDoor.Tx
open Go.RowKit Go.ChangeShapes Go.WideShapes Go.Deep Go.Maps
open Lst
def txE : Enc ByteArray := ⟨fun s => [.string s],1,fun _ => rfl,fun x u hu => by
 rw [List.mem_singleton] at hu
 subst hu
 rfl,by decide⟩
theorem tx_cell {w : World} {b o k : Nat} {x : ByteArray} (h : w.rangeAt b (o + k * txE.size) (txE.cells x)) : w.cell? ⟨b,o + k,none⟩ = some (.string x) := by
 have := h 0 _ rfl
 rw [show txE.size = 1 from rfl,Nat.mul_one] at this
 exact this
theorem info_tx : (Tryz.prog.info? 9).map (fun i => (i.zero,i.size,i.bytes)) = some (some (.string ⟨#[]⟩),txE.size,16) := by kernel_rfl
theorem So.head {α : Type} {e : Enc α} {T : TypeId} {w : World} {base n : Nat} {v : Value} {L : List α} (h : So e T w base v n L) : ∃ A c,v = .slice A n c ∧ n ≤ c ∧ c ≤ maxLen ∧ (A = none → c = 0) := by
 rcases h.form with ⟨rfl,rfl⟩ | ⟨g,cap,rfl,_,_,h1,h2⟩
 ·exact ⟨none,0,rfl,Nat.le_refl _,Nat.zero_le _,fun _ => rfl⟩
 ·exact ⟨_,cap,rfl,h1,h2,fun h => by cases h⟩
section
variable {P : Program} {w : World}
theorem wpList_append_any {α : Type} {ops : Array Oper} {rest : List Oper} {o : Oper} {a : Act} {Q : Exit → Act → World → Prop} (e : Enc α) (T : TypeId) (hgd : o.guard = none) (s x : Operand) (t : TypeId)
 (ho : o.op = .call { callee := .builtin .append,args := #[s,x],argTypes := #[t,t] }) (ht : P.underlying t = some (.slice T)) {z : Value} {bytes : Nat} (hinfo : (P.info? T).map (fun i => (i.zero,i.size,i.bytes)) = some (some z,e.size,bytes)) (hzs : z.cells.size = e.size)
 (base : Nat) (v : Value) (n : Nat) (L : List α) (hs : a.eval s = v) (hown : So e T w base v n L)
 (A : Option Addr) (m c : Nat) (M : List α) (hx : a.eval x = .slice A m c) (hr : Sl e w A m M) (hnil : A = none → c = 0)
 (N : Nat) (hN : n + m = N) (K : List α) (hK : L ++ M = K) (h63 : N ≤ maxLen) (hbytes : N * bytes ≤ 140737488355328) (hbase : base ≤ w.heap.size)
 (h : ∀ v' w',So e T w' base v' N K → w.grownBy w' v.ownBlock → (v'.ownBlock = v.ownBlock ∨ v'.ownBlock = some w.heap.size) → wpList P ops Q rest (a.put o.dst v') w') :
 wpList P ops Q (o :: rest) a w := by
 subst hN
 subst hK
 obtain ⟨i,hi,hz0,hz1,hz2⟩ := info_parts hinfo
 have hm0 : m = 0 → M = [] := fun h => List.eq_nil_of_length_eq_zero (hr.1.trans h)
 cases A with
 | none =>
   have hc := hnil rfl
   subst hc
   have hm : m = 0 := by
    rcases Nat.eq_zero_or_pos m with h0 | h0
    ·exact h0
    ·obtain ⟨_,_,_,_,e1,_⟩ := hr.get 0 h0
     cases e1
   subst hm
   have hM := hm0 rfl
   subst hM
   refine wpList_append_own_none hgd s x t ho base T i e.size ht hi v n _ hs hown.2 hx ?_
   exact h v w (by simpa using hown) (World.grownBy.refl w _) (.inl rfl)
 | some b =>
   rcases Nat.eq_zero_or_pos m with h0 | h0
   ·subst h0
    have hM := hm0 rfl
    subst hM
    refine wpList_append_own_at _ hgd s x _ ho base T i _ e.size bytes ht hi hz0 hz1 hz2 hzs e.pos _ n _ hs hown.2 b 0 c [] hx (by simp) (fun j u hu => by simp at hu) (fun u hu => by simp at hu) h63 hbytes hbase ?_
    intro v' w' hown' hg hnil' hat
    exact h v' w' ⟨by simpa using hown.1,by simpa using hown'⟩ hg hat
   ·obtain ⟨_,bb,oo,_,e1,_⟩ := hr.get 0 h0
    injection e1 with e1
    subst e1
    exact wpList_append_lst e T hgd s x t ho ht hinfo hzs base v n L hs hown bb oo m c M hx hr _ rfl _ rfl h63 hbytes hbase (fun v' w' h1 h2 h3 _ => h v' w' h1 h2 h3)
end
end Go.Proofs.YtogdjbhjgbnicaaGreatDoor.Tx