import Derived.Test.YtlblfpacnegmlaaSq
import Derived.Test.YtlblfpacnegmlaaClashH
import Derived.Test.YtlblfpacnegmlaaViewD
import Derived.BigQuiet
set_option maxHeartbeats 16000000
set_option linter.unusedVariables false
set_option linter.unusedSimpArgs false
set_option maxRecDepth 100000
namespace Go.Proofs.Ytlblfpacnegmlaa.ClashHa
open Go.RowKit
open Byte KeysM TreeM ViewM ClashM ClashKm Lst Chg TreeR TreeL ViewR ViewL Nest ClashL ClashQ ClashH
open Tx (txE)
open Own
structure HC (w : World) (b : Nat) (v : Value) (n : Nat) (hs : List Hd) (l : List (List Pr)) (g : Nat) : Prop where
 blk : Blk w b #[v,.int .u64 (g : Int)] 56
 row : So hdE 22 w 0 v n hs
 len : n + g = l.length
 keys : ∀ (j : Nat) (x : Hd),hs[j]? = some x → ∃ K,Sl txE w x.a x.n K ∧ Up K ∧ x.n ≤ 100000 ∧ ∃ W,l[g + j]? = some W ∧ Same K W
 lt : ∀ (x : Hd),x ∈ hs → ∀ q o,x.a = some ⟨q,o,none⟩ → q < w.heap.size
 off : ∀ (x : Hd),x ∈ hs → ∀ q o,x.a = some ⟨q,o,none⟩ → q ≠ b ∧ v.ownBlock ≠ some q
def Bs (b : Nat) (v : Value) (hs : List Hd) (q : Nat) : Prop := q = b ∨ v.ownBlock = some q ∨ ∃ x ∈ hs,∃ o,x.a = some ⟨q,o,none⟩
def HR : HRep := fun w h l g T => ∃ b v n hs,h = .pointer (some ⟨b,0,none⟩) ∧ HC w b v n hs l g ∧ (∀ q,Bs b v hs q → T q) ∧ ∀ q,T q → q < w.heap.size
theorem So.chg {α : Type} {e : Enc α} {T : TypeId} {w w' : World} {base : Nat} {v : Value} {n : Nat} {L : List α} {Q : Nat → Prop} (h : So e T w base v n L) (k : Chg Q w w') (ho : ∀ b,v.ownBlock = some b → ¬ Q b) : So e T w' base v n L := by
 obtain ⟨h1,h2,h3⟩ := h
 refine ⟨h1,h2,?_⟩
 rcases h3 with hn | ⟨g,cap,cur,rfl,hb,hgg,rest⟩
 ·exact .inl hn
 ·refine .inr ⟨g,cap,cur,rfl,hb,?_,rest⟩
  rw [k.block g (Array.getElem?_eq_some_iff.1 hgg).1 (ho g rfl)]
  exact hgg
section
variable {w w' : World} {b : Nat} {v : Value} {n : Nat} {hs : List Hd} {l : List (List Pr)} {g : Nat}
theorem HC.chg (h : HC w b v n hs l g) {Q : Nat → Prop} (k : Chg Q w w') (ho : ∀ q,Q q → ¬ Bs b v hs q) : HC w' b v n hs l g :=
 ⟨(k.block b h.blk.lt (fun hq => ho b hq (.inl rfl))).trans h.blk,So.chg h.row k (fun q hq hQ => ho q hQ (.inr (.inl hq))),h.len,fun j x hx => by
   obtain ⟨K,h1,h2,h3,h4⟩ := h.keys j x hx
   exact ⟨K,Sl.chg h1 k (fun q o hq hQ => ho q hQ (.inr (.inr ⟨x,List.mem_of_getElem? hx,o,hq⟩))),h2,h3,h4⟩,fun x hx q o e => Nat.lt_of_lt_of_le (h.lt x hx q o e) k.size,h.off⟩
theorem HC.below (h : HC w b v n hs l g) (hb : Below w.heap.size w w') : HC w' b v n hs l g := h.chg (Chg.of_below hb : Chg (fun _ => False) w w') (fun _ hq => hq.elim)
theorem HC.sep (h : HC w b v n hs l g) : v.ownBlock ≠ some b := by
 intro e
 obtain ⟨h1,h2,h3⟩ := h.row
 rcases h3 with ⟨hn,_⟩ | ⟨g',cap,cur,rfl,_,hgg,_⟩
 ·rw [hn] at e
  cases e
 ·have e1 : g' = b := by injection e
  subst e1
  have hb := h.blk
  unfold Blk at hb
  rw [hgg] at hb
  injection hb with hb
  injection hb with _ hT _
  exact absurd hT (by decide)
theorem HC.form (h : HC w b v n hs l g) : ∃ A c,v = .slice A n c ∧ n ≤ c ∧ c ≤ maxLen ∧ (A = none → c = 0) := Tx.So.head h.row
end
theorem hstay : HStay HR where
 stay := by
  rintro w w' h l g T Q ⟨b,v,n,hs,rfl,hc,hT,hlt⟩ k ho
  exact ⟨b,v,n,hs,rfl,hc.chg k (fun q hq hb => ho q hq (hT q hb)),hT,fun q hq => Nat.lt_of_lt_of_le (hlt q hq) k.size⟩
 lt := by
  rintro w h l g T ⟨b,v,n,hs,rfl,hc,hT,hlt⟩ q hq
  exact hlt q hq
 some_ := by
  rintro w h l g T ⟨b,v,n,hs,rfl,_⟩
  exact ⟨b,rfl⟩
 le := by
  rintro w h l g T ⟨b,v,n,hs,rfl,hc,_⟩
  have := hc.len
  omega
theorem hnew : HNewOk HR := by
 intro w
 have HB : Hid (Blk (w.alloc (.cells #[.slice none 0 0,.int .u64 0] 56)) w.heap.size #[.slice none 0 0,.int .u64 0] 56) := hQ_ (Blk.new_ _ _ _)
 have HL : Hid (Below w.heap.size w (w.alloc (.cells #[.slice none 0 0,.int .u64 0] 56))) := hQ_ (below_lit _ _)
 go_enter Try.func10,Try.ntmps10
 go_wp2_with fail
 go_ret
 refine ⟨_,fun q => q = w.heap.size,rfl,⟨w.heap.size,.slice none 0 0,0,[],rfl,⟨HB.out,So.nil_ _ _ _ _,rfl,fun j x h => by simp at h,(fun x h => by cases h),(fun x h => by cases h)⟩,?_,?_⟩,fun q h => Nat.le_of_eq h.symm,HL.out⟩
 ·rintro q (rfl | hq | ⟨x,hx,_⟩)
  ·rfl
  ·cases hq
  ·cases hx
 ·intro q hq
  rw [hq]
  simp
section
variable {w : World} {b : Nat} {v : Value} {n : Nat} {hs : List Hd} {l : List (List Pr)} {g : Nat}
theorem len_calls (h : HC w b v n hs l g) (hl : l.length ≤ 301) : Calls Try.prog 18 #[.pointer (some ⟨b,0,none⟩)] w fun e w' => e = .returned (.int .i64 ((l.length : Int) - g)) ∧ Below w.heap.size w w' := by
 obtain ⟨A,c,rfl,_⟩ := h.form
 have c0 := cZ0 h.blk
 have e : (l.length : Int) - g = n := by have := h.len; omega
 have E := hQ_ e
 clear h hl e
 go_enter Try.func18,Try.ntmps18
 go_wp2_with fail
 go_ret
 exact ⟨Byte.ret_int E.out.symm,Below.refl _ _⟩
theorem now_calls (h : HC w b v n hs l g) (hl : l.length ≤ 301) : Calls Try.prog 17 #[.pointer (some ⟨b,0,none⟩)] w fun e w' => e = .returned (.int .u64 l.length) ∧ ∃ q,w' = w.drewN q := by
 obtain ⟨A,c,rfl,_⟩ := h.form
 have c0 := cC2 h.blk
 have e : (g : Int) + n = l.length := by have := h.len; omega
 have hn : n ≤ 301 := by have := h.len; omega
 have hg : g ≤ 301 := by have := h.len; omega
 have e1 : IntKind.u64.wrap (n : Int) = n := by unfold IntKind.wrap; simp [IntKind.bits,IntKind.signed]; omega
 have e2 : IntKind.u64.wrap ((g : Int) + n) = (g : Int) + n := by unfold IntKind.wrap; simp [IntKind.bits,IntKind.signed]; omega
 have E := hQ_ e
 clear h hl e
 go_enter Try.func17,Try.ntmps17
 go_wp2_with fail
 go_quiet (fail)
 go_wp2_with fail
 go_ret
 exact ⟨by rw [← E.out]; rfl,_,rfl⟩
end
end Go.Proofs.Ytlblfpacnegmlaa.ClashHa