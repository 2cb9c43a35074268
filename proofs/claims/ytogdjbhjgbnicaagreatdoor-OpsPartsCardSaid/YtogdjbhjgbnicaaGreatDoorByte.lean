import Derived.WalkKit
import Derived.Below
import Derived.Deep.Draws
import Derived.WalkSmall
import Derived.OpenShut
import Derived.Lib.Hide
import Derived.Laws.OwnMore
import Derived.Laws.Rows
import Derived.Laws.AppendOwnNone
import Derived.Maps.AppendAt
import Derived.Laws.IdiomStrings
namespace Go.Proofs.YtogdjbhjgbnicaaGreatDoor.Byte
open Go.RowKit
theorem ret_bool {a b : Bool} (h : a = b) : Ending.returned (.bool a) = .returned (.bool b) := by rw [h]
theorem ret_int {k : IntKind} {a b : Int} (h : a = b) : Ending.returned (.int k a) = .returned (.int k b) := by rw [h]
def Bs (w : World) (A : Option Addr) (n : Nat) (xs : List Int) : Prop :=
 xs.length = n ∧ (∀ x ∈ xs,0 ≤ x ∧ x ≤ 255) ∧ ∀ k,k < n → ∃ b o,A = some ⟨b,o,none⟩ ∧ b < w.heap.size ∧ w.cell? ⟨b,o + k,none⟩ = some (.int .u8 (xs.getD k 0))
section
variable {w w' : World} {A : Option Addr} {n : Nat} {xs : List Int}
theorem Bs.len (h : Bs w A n xs) : xs.length = n := h.1
theorem Bs.bd (h : Bs w A n xs) (k : Nat) : 0 ≤ xs.getD k 0 ∧ xs.getD k 0 ≤ 255 := by
 rw [List.getD_eq_getElem?_getD]
 rcases Nat.lt_or_ge k xs.length with hk | hk
 ·rw [List.getElem?_eq_getElem hk]
  exact h.2.1 _ (List.getElem_mem hk)
 ·rw [List.getElem?_eq_none hk]
  simp
theorem Bs.at_ {b o : Nat} (h : Bs w (some ⟨b,o,none⟩) n xs) (k : Nat) (hk : k < n) : w.cell? ⟨b,o + k,none⟩ = some (.int .u8 (xs.getD k 0)) := by
 obtain ⟨b',o',e,_,hc⟩ := h.2.2 k hk
 injection e with e
 injection e with e1 e2
 subst e1
 subst e2
 exact hc
theorem Bs.nil_ (w : World) (A : Option Addr) : Bs w A 0 [] := ⟨rfl,by simp,fun k hk => absurd hk (by omega)⟩
theorem Bs.below (h : Bs w A n xs) (hb : Below w.heap.size w w') : Bs w' A n xs := by
 refine ⟨h.1,h.2.1,fun k hk => ?_⟩
 obtain ⟨b,o,e,hlt,hc⟩ := h.2.2 k hk
 exact ⟨b,o,e,Nat.lt_of_lt_of_le hlt hb.size,(hb.cell (p := ⟨b,o + k,none⟩) hlt).trans hc⟩
end
theorem Bs.new_ (w : World) (t : TypeId) (f : Nat × Nat) (xs : List Int) (h : ∀ x ∈ xs,0 ≤ x ∧ x ≤ 255) : Bs (w.alloc (.cells (xs.map (Value.int .u8)).toArray t f)) (some ⟨w.heap.size,0,none⟩) xs.length xs := by
 refine ⟨rfl,h,fun k hk => ⟨w.heap.size,0,rfl,by simp,?_⟩⟩
 have hh := heap_alloc_new w (.cells (xs.map (Value.int .u8)).toArray t f)
 rw [cell_of_row _ _ _ _ _ _ hh]
 simp [List.getElem?_eq_getElem hk]
def Ob (w : World) (base : Nat) (e : TypeId) (g n cap : Nat) (xs : List Int) : Prop :=
 xs.length = n ∧ (∀ x ∈ xs,0 ≤ x ∧ x ≤ 255) ∧ w.ownsRow base e 1 (.slice (some ⟨g,0,none⟩) n cap) n (xs.map (Value.int .u8))
section
variable {w w' : World} {base : Nat} {e : TypeId} {g n cap : Nat} {xs : List Int}
theorem Ob.place (h : Ob w base e g n cap xs) : base ≤ g ∧ g < w.heap.size := h.2.2.lt g rfl
theorem Ob.cell (h : Ob w base e g n cap xs) (k : Nat) (hk : k < n) : w.cell? ⟨g,k,none⟩ = some (.int .u8 (xs.getD k 0)) := by
 rw [h.2.2.cellAt k (by omega)]
 have hl : k < xs.length := by rw [h.1]; exact hk
 simp [List.getElem?_eq_getElem hl]
theorem Ob.frozen (h : Ob w base e g n cap xs) (k : Nat) : w.frozen? ⟨g,k,none⟩ = false := h.2.2.frozenAt k
theorem Ob.bs (h : Ob w base e g n cap xs) : Bs w (some ⟨g,0,none⟩) n xs :=
 ⟨h.1,h.2.1,fun k hk => ⟨g,0,rfl,h.place.2,by rw [Nat.zero_add]; exact h.cell k hk⟩⟩
theorem Ob.set_ (h : Ob w base e g n cap xs) (k : Nat) (v : Int) (h0 : 0 ≤ v) (h1 : v ≤ 255) : Ob (w.setCell ⟨g,k,none⟩ (.int .u8 v)) base e g n cap (xs.set k v) :=
 ⟨by rw [List.length_set]; exact h.1,fun x hx => by
   rcases List.mem_or_eq_of_mem_set hx with h' | rfl
   ·exact h.2.1 x h'
   ·exact ⟨h0,h1⟩,by rw [List.map_set]; exact (h.2.2.stored k _).1⟩
theorem Ob.below (h : Ob w base e g n cap xs) (hb : Below w.heap.size w w') : Ob w' base e g n cap xs :=
 ⟨h.1,h.2.1,h.2.2.kept (row := none) ⟨hb.os,hb.tape,hb.output,hb.size,fun k hk _ => hb.block k hk⟩ (.inr (by simp [Value.ownBlock]))⟩
end
theorem Bs.of_row {w : World} {a : Option Addr} {len cap : Nat} {zs : List Int}
 (h : (a = none ∧ len = 0 ∧ cap = 0 ∧ zs = []) ∨ ∃ x,a = some x ∧ len ≤ cap ∧ cap ≤ maxLen ∧ zs.length = cap ∧ (∀ i,i < zs.length → w.cell? (x.add i) = some (.int .u8 (zs.getD i 0))) ∧ ∀ n ∈ zs,(Lit.int .u8 n).wf = true) :
 Bs w a len (zs.take len) ∧ len ≤ maxLen ∧ (a = none → cap = 0) := by
 rcases h with ⟨rfl,rfl,rfl,rfl⟩ | ⟨x,rfl,hl,hm,hz,hc,hw⟩
 ·exact ⟨Bs.nil_ _ _,by decide,fun _ => rfl⟩
 ·refine ⟨⟨by rw [List.length_take]; omega,fun y hy => ?_,fun k hk => ?_⟩,by omega,fun e => by cases e⟩
  ·have h2 := hw y (List.mem_of_mem_take hy)
   have h3 := bounds_u8 h2
   omega
  ·have hck := hc k (by omega)
   obtain ⟨b,o,spot⟩ := x
   have h0 := hc 0 (by omega)
   have hspot : spot = none := by simpa [Addr.add] using World.cell?_spot h0
   subst hspot
   have e2 : (⟨b,o,none⟩ : Addr).add k = ⟨b,o + k,none⟩ := by
    unfold Addr.add
    by_cases h0 : k = 0 <;> simp [h0]
   rw [e2] at hck
   have hlt : b < w.heap.size := by
    rcases Nat.lt_or_ge b w.heap.size with h' | h'
    ·exact h'
    ·simp [World.cell?,Array.getElem?_eq_none h'] at hck
   refine ⟨b,o,rfl,hlt,?_⟩
   rw [hck]
   simp [List.getD_eq_getElem?_getD,hk]
def str (xs : List Int) : ByteArray := ⟨(xs.map (fun x => UInt8.ofNat x.toNat)).toArray⟩
theorem Ob.str_ {P : Program} {w : World} {base : Nat} {e : TypeId} {g n cap : Nat} {xs : List Int} (h : Ob w base e g n cap xs) (src dst : TypeId)
 (hs : P.underlying src = some (.slice e)) (he : P.underlying e = some (.int .u8)) (hd : P.underlying dst = some .string) :
 (convert src dst (.slice (some ⟨g,0,none⟩) n cap)).run P w = .ok (.string (str xs)) w := by
 have hl : (xs.map (fun x => UInt8.ofNat x.toNat)).length = n := by rw [List.length_map]; exact h.1
 have r := run_convert_bytes_back (P := P) w src dst e ⟨g,0,none⟩ cap (xs.map (fun x => UInt8.ofNat x.toNat)) hs he hd (fun j hj => by
  have hj' : j < n := by rw [← hl]; exact hj
  have hx : j < xs.length := by rw [h.1]; exact hj'
  have e2 : (⟨g,0,none⟩ : Addr).add j = ⟨g,j,none⟩ := by
   unfold Addr.add
   by_cases h0 : j = 0 <;> simp [h0]
  rw [e2,h.cell j hj']
  have hb := h.2.1 _ (List.getElem_mem hx)
  simp only [List.getElem_map,List.getD_eq_getElem?_getD,List.getElem?_eq_getElem hx,Option.getD_some]
  congr 2
  rw [UInt8.toNat_ofNat']
  omega)
 rw [hl] at r
 exact r
end Go.Proofs.YtogdjbhjgbnicaaGreatDoor.Byte