import Derived.Deep.MidRow
import Derived.Deep.QuietTactic
import Derived.BigQuiet
import Derived.Test.YtogdjbhjgbnicaaGreatDoorOpsPartsMBA
import Derived.Test.YtogdjbhjgbnicaaGreatDoorOpsPartsMAQ
import Derived.Test.YtogdjbhjgbnicaaGreatDoorNodeM
import Derived.Test.YtogdjbhjgbnicaaGreatDoorKeysS
import Derived.Test.YtogdjbhjgbnicaaGreatDoorOwn
import Derived.Test.YtogdjbhjgbnicaaGreatDoorTreeR
import Derived.Test.YtogdjbhjgbnicaaGreatDoorTx
import Derived.Test.YtogdjbhjgbnicaaGreatDoorHo
import Derived.WalkSpells
set_option linter.unusedVariables false
set_option linter.unusedSimpArgs false
namespace Go.Proofs.YtogdjbhjgbnicaaGreatDoor.WalkL
open Go.RowKit
open Byte KeysM KeysR TreeM ViewM NodeM WalkM Lst Chg TreeR TreeL TreeG TreeH ViewR ViewL ViewP
open Own hiding keeps
abbrev RepT := World → Value → Vs → (Nat → Prop) → (Nat → Prop) → Prop
def Stepped (Rep : RepT) (v : Value) (s : Vs) (a : Value) (S D : Nat → Prop) (w : World) (e : Ending) (w' : World) : Prop := ∃ S' D',e = .returned a ∧ Rep w' v s S' D' ∧ Stp S D S' D' w w'
structure InoB (k l s p : Int) : Prop where
 k0 : 0 ≤ k
 k1 : k ≤ 255
 l0 : 0 ≤ l
 l1 : l ≤ 4294967295
 s0 : 0 ≤ s
 s1 : s ≤ 4294967295
 p0 : 0 ≤ p
 p1 : p ≤ 4294967295
def SaveOk (Rep : RepT) : Prop := ∀ ⦃w v s S D⦄ (ino k l z p : Int),Rep w v s S D → Lim s → 0 ≤ ino → ino ≤ 4294967295 → InoB k l z p → Calls Tryz.prog 101 #[v,.int .u32 ino,.agg #[.int .u8 k,.int .u32 l,.int .u32 z,.int .u32 p]] w (Stepped Rep v (s.write ⟨kI ino,nput k l z p,false⟩) (.bool (!fullW s.wr ⟨kI ino,nput k l z p,false⟩)) S D w)
def DropOk (Rep : RepT) : Prop := ∀ ⦃w v s S D⦄ (ino : Int),Rep w v s S D → Lim s → 0 ≤ ino → ino ≤ 4294967295 → Calls Tryz.prog 140 #[v,.int .u32 ino] w (Stepped Rep v (s.write ⟨kI ino,⟨#[]⟩,true⟩) (.bool (!fullW s.wr ⟨kI ino,⟨#[]⟩,true⟩)) S D w)
def HangOk (Rep : RepT) : Prop := ∀ ⦃w v s S D⦄ (dir : Int) (name : ByteArray) (ino : Int),Rep w v s S D → Lim s → 0 ≤ dir → dir ≤ 4294967295 → 0 ≤ ino → ino ≤ 4294967295 → name.size ≤ 100000 → Calls Tryz.prog 102 #[v,.int .u32 dir,.string name,.int .u32 ino] w (Stepped Rep v (s.write ⟨kE dir name,hangV ino,false⟩) (.bool (!fullW s.wr ⟨kE dir name,hangV ino,false⟩)) S D w)
def UnhangOk (Rep : RepT) : Prop := ∀ ⦃w v s S D⦄ (dir : Int) (name : ByteArray),Rep w v s S D → Lim s → 0 ≤ dir → dir ≤ 4294967295 → name.size ≤ 100000 → Calls Tryz.prog 137 #[v,.int .u32 dir,.string name] w (Stepped Rep v (s.write ⟨kE dir name,⟨#[]⟩,true⟩) (.bool (!fullW s.wr ⟨kE dir name,⟨#[]⟩,true⟩)) S D w)
def ChildOk (Rep : RepT) : Prop := ∀ ⦃w v s S D⦄ (dir : Int) (name : ByteArray),Rep w v s S D → Lim s → 0 ≤ dir → dir ≤ 4294967295 → name.size ≤ 100000 → Calls Tryz.prog 146 #[v,.int .u32 dir,.string name] w (Stepped Rep v (s.read (kE dir name)) (.tuple #[.int .u32 (childM s.shown dir name).1,.bool (childM s.shown dir name).2]) S D w)
def ListOk (Rep : RepT) : Prop := ∀ ⦃w v s S D⦄ (dir : Int),Rep w v s S D → Lim s → 0 ≤ dir → dir ≤ 4294967295 → (∀ p ∈ s.shown,(sp p.key).letter ≠ 0) → Calls Tryz.prog 117 #[v,.int .u32 dir] w fun e w' => ∃ A m c a b S' D',e = .returned (.slice A m c) ∧ Sl Tx.txE w' A m (listM dir s.shown) ∧ Rep w' v (s.ranged a b) S' D' ∧ Stp S D S' D' w w'
section
variable {Rep : RepT}
theorem kept_trans {a b c : World} (h : Kept a b) (k : Kept b c) : Kept a c := fun q cs U fr hU hb => k q cs U fr hU (h q cs U fr hU hb)
end
end Go.Proofs.YtogdjbhjgbnicaaGreatDoor.WalkL
namespace Go.Proofs.YtogdjbhjgbnicaaGreatDoor.WalkV
open Go.RowKit
open Byte KeysM TreeM ViewM WalkKm Chg TreeG TreeH ViewL ViewP WalkL
def VB (Rep : RepT) : RepT := fun w v s S D => Rep w v s S D ∧ VsB s
variable {Rep : RepT}
def NewB (Rep : RepT) : Prop := ∀ ⦃w t L h⦄,TRep w t L h → L.length ≤ 1000 → (∀ p ∈ L,p.value.size ≤ 200000000000000) → Calls Tryz.prog 9 #[t] w fun e w' => ∃ v S D,e = .returned v ∧ Rep w' v ⟨L,[],[],[]⟩ S D ∧ (∀ b,S b → w.heap.size ≤ b) ∧ (∀ b,D b → w.heap.size ≤ b) ∧ Below w.heap.size w w'
theorem stays_b (h : Stays Rep) : Stays (VB Rep) where
 stay := fun r c hT k => ⟨h.stay r.1 c hT k,r.2⟩
 ok := fun r => h.ok r.1
 lt := fun r => h.lt r.1
 sub := fun r => h.sub r.1
theorem new_b (h : NewOk Rep) : NewB (VB Rep) := fun _ _ _ _ r hl hb => (h r hl).mono fun _ _ ⟨v,S,D,e,hr,h1,h2,h3⟩ => ⟨v,S,D,e,⟨hr,VsB.new hb⟩,h1,h2,h3⟩
theorem get_b (h : GetOk Rep) : GetOk (VB Rep) := fun _ _ _ _ _ k r hl hk => (h k r.1 hl hk).mono fun _ _ ⟨S',D',e,hr,st⟩ => ⟨S',D',e,⟨hr,r.2.read k⟩,st⟩
theorem look_b (h : LookOk Rep) : LookOk (VB Rep) := fun _ _ _ _ _ k r hl hk => (h k r.1 hl hk).mono fun _ _ ⟨S',D',e,hr,st⟩ => ⟨S',D',e,⟨hr,r.2⟩,st⟩
theorem range_b (h : RangeOk Rep) : RangeOk (VB Rep) := fun _ _ _ _ _ x y r hl hx hy => (h x y r.1 hl hx hy).mono fun _ _ ⟨q,S',D',e,h1,h2,hr,st⟩ => ⟨q,S',D',e,h1,h2,⟨hr,r.2.ranged x y⟩,st⟩
theorem set_b (h : ViewL.SetOk Rep) : ViewL.SetOk (VB Rep) := fun _ _ _ _ _ k x r hl hk hx => (h k x r.1 hl hk hx).mono fun _ _ ⟨S',D',e,hr,st⟩ => ⟨S',D',e,⟨hr,r.2.write hx⟩,st⟩
theorem cut_b (h : CutOk Rep) : CutOk (VB Rep) := fun _ _ _ _ _ k r hl hk => (h k r.1 hl hk).mono fun _ _ ⟨S',D',e,hr,st⟩ => ⟨S',D',e,⟨hr,r.2.write (p := ⟨k,⟨#[]⟩,true⟩) (show (0 : Nat) ≤ 200000000000000 from Nat.zero_le _)⟩,st⟩
end Go.Proofs.YtogdjbhjgbnicaaGreatDoor.WalkV
namespace Go.Proofs.YtogdjbhjgbnicaaGreatDoor.Vat
open Go.RowKit
open Byte TreeM ViewM Lst Chg TreeL ViewL WalkL
open Own hiding keeps
structure At (Rep : RepT) (w0 : World) (S0 D0 M : Nat → Prop) (w : World) (v : Value) (s : Vs) (S D : Nat → Prop) : Prop where
 rep : Rep w v s S D
 st : Stp S0 D0 S D w0 w
 mine : ∀ b,M b → w0.heap.size ≤ b ∧ b < w.heap.size ∧ ¬ D b
variable {Rep : RepT} {w0 w w' : World} {S0 D0 M S D S' D' : Nat → Prop} {v : Value} {s s' : Vs}
theorem Stp.refl (S D : Nat → Prop) (w : World) : Stp S D S D w w := ⟨Chg.refl _ _,fun _ _ _ _ _ h => h,Grow.refl _ _,Grow.refl _ _⟩
theorem At.start (h : Rep w v s S D) : At Rep w S D (fun _ => False) w v s S D := ⟨h,Stp.refl _ _ _,fun _ h => h.elim⟩
theorem At.less {M' : Nat → Prop} (p : At Rep w0 S0 D0 M w v s S D) (h : ∀ b,M' b → M b) : At Rep w0 S0 D0 M' w v s S D := ⟨p.rep,p.st,fun b hb => p.mine b (h b hb)⟩
theorem At.chg (hS : Stays Rep) (p : At Rep w0 S0 D0 M w v s S D) {Q : Nat → Prop} (hc : Chg Q w w') (hk : Kept w w') (hQ : ∀ b,Q b → b < w.heap.size → M b) : At Rep w0 S0 D0 M w' v s S D := by
 have hc' : Chg M w w' := hc.mono (fun k hk hq => hQ k hq hk)
 refine ⟨hS.stay p.rep hc' (fun b hb => (p.mine b hb).2.2) hk,⟨p.st.chg.then_ hc' (fun i hi hm => ?_),kept_trans p.st.kept hk,p.st.own,p.st.dep⟩,fun b hb => ?_⟩
 ·have := (p.mine i hm).1
  omega
 ·have h1 := p.mine b hb
  exact ⟨h1.1,Nat.lt_of_lt_of_le h1.2.1 hc.size,h1.2.2⟩
theorem At.below (hS : Stays Rep) (p : At Rep w0 S0 D0 M w v s S D) (hb : Below w.heap.size w w') : At Rep w0 S0 D0 M w' v s S D :=
 p.chg hS (Q := fun _ => False) (Chg.of_below hb) (Kept.of_below hb) (fun _ h => h.elim)
theorem At.own (hS : Stays Rep) (p : At Rep w0 S0 D0 M w v s S D) (hb : Below w.heap.size w w') {r : Nat} (h1 : w.heap.size ≤ r) (h2 : r < w'.heap.size) : At Rep w0 S0 D0 (fun b => M b ∨ b = r) w' v s S D := by
 have q := p.below hS hb
 refine ⟨q.rep,q.st,fun b hb => ?_⟩
 rcases hb with hb | rfl
 ·exact q.mine b hb
 ·have h3 := p.st.chg.size
  exact ⟨by omega,h2,fun hd => by have := hS.lt p.rep b hd; omega⟩
theorem At.owns (hS : Stays Rep) (p : At Rep w0 S0 D0 M w v s S D) (hb : Below w.heap.size w w') {Q : Nat → Prop} (hQ : ∀ b,Q b → w.heap.size ≤ b ∧ b < w'.heap.size) : At Rep w0 S0 D0 (fun b => M b ∨ Q b) w' v s S D := by
 have q := p.below hS hb
 refine ⟨q.rep,q.st,fun b hq => ?_⟩
 rcases hq with hq | hq
 ·exact q.mine b hq
 ·have h3 := p.st.chg.size
  have h4 := hQ b hq
  exact ⟨by omega,h4.2,fun hd => by have := hS.lt p.rep b hd; omega⟩
theorem At.step (hS : Stays Rep) (p : At Rep w0 S0 D0 M w v s S D) (hr : Rep w' v s' S' D') (st : Stp S D S' D' w w') : At Rep w0 S0 D0 M w' v s' S' D' := by
 refine ⟨hr,⟨p.st.chg.then_ st.chg (fun i hi hm => ?_),kept_trans p.st.kept st.kept,p.st.own.trans st.own p.st.chg.size,p.st.dep.trans st.dep p.st.chg.size⟩,fun b hb => ?_⟩
 ·rcases p.st.own i hm with h | h
  ·exact h
  ·omega
 ·have h1 := p.mine b hb
  refine ⟨h1.1,Nat.lt_of_lt_of_le h1.2.1 st.chg.size,fun hd => ?_⟩
  rcases st.dep b hd with h | h
  ·exact h1.2.2 h
  ·omega
theorem At.stored (hS : Stays Rep) (p : At Rep w0 S0 D0 M w v s S D) {r : Nat} {cs : Array Value} {T : TypeId} (h : Blk w r cs T) (hr : M r) (hne : 76 ≠ T ∧ 125 ≠ T) (hg : w.grownBy w' (some r)) : At Rep w0 S0 D0 M w' v s S D :=
 p.chg hS (Q := fun b => b = r) (Chg.of_grown hg (fun k e => .inl (by injection e with e; exact e.symm))) (ViewP.kept_grown h hne hg) (fun b e _ => by subst e; exact hr)
theorem At.set (hS : Stays Rep) (p : At Rep w0 S0 D0 M w v s S D) {r : Nat} {cs : Array Value} {T : TypeId} (h : Blk w r cs T) (hr : M r) (hne : 76 ≠ T ∧ 125 ≠ T) (i : Nat) (u : Value) : At Rep w0 S0 D0 M (w.setCell ⟨r,i,none⟩ u) v s S D :=
 p.chg hS (Q := fun b => b = r) ((Chg.refl (fun b => b = r) w).setCell (p := ⟨r,i,none⟩) (.inl rfl) u) (ViewD.kept_set h hne i u) (fun b e _ => by subst e; exact hr)
theorem At.grown (hS : Stays Rep) (p : At Rep w0 S0 D0 M w v s S D) {α : Type} {e : Enc α} {T : TypeId} {base n : Nat} {u : Value} {L : List α} (h : So e T w base u n L) (hr : ∀ r,u.ownBlock = some r → M r) (hne : 76 ≠ T ∧ 125 ≠ T) (hg : w.grownBy w' u.ownBlock) : At Rep w0 S0 D0 M w' v s S D :=
 p.chg hS (Q := fun b => u.ownBlock = some b) (Chg.of_grown hg (fun k e => .inl e)) (Kept.of_grown h hg hne) (fun b e _ => hr b e)
theorem At.apart (hS : Stays Rep) (p : At Rep w0 S0 D0 M w v s S D) {r : Nat} (hr : M r) : ¬ S r := fun h => (p.mine r hr).2.2 (hS.sub p.rep r h)
theorem At.blk (hS : Stays Rep) (p : At Rep w0 S0 D0 M w v s S D) {r : Nat} {cs : Array Value} {T : TypeId} (h : Blk w r cs T) (hr : M r) (st : Stp S D S' D' w w') : Blk w' r cs T := (st.chg.block r h.lt (p.apart hS hr)).trans h
theorem At.sl (hS : Stays Rep) (p : At Rep w0 S0 D0 M w v s S D) {α : Type} {e : Enc α} {A : Option Addr} {n : Nat} {L : List α} (h : Sl e w A n L) (hA : ∀ b o,A = some ⟨b,o,none⟩ → M b) (st : Stp S D S' D' w w') : Sl e w' A n L :=
 Chg.Sl.chg h st.chg (fun b o e => p.apart hS (hA b o e))
theorem At.size (p : At Rep w0 S0 D0 M w v s S D) : w0.heap.size ≤ w.heap.size := p.st.chg.size
end Go.Proofs.YtogdjbhjgbnicaaGreatDoor.Vat
namespace Go.Proofs.YtogdjbhjgbnicaaGreatDoor.WalkD
open Go.RowKit
open Byte KeysM KeysR TreeM ViewM NodeM WalkM Lst Chg TreeR TreeL TreeG TreeH ViewR ViewL ViewP WalkL
open Own hiding keeps
variable {Rep : RepT}
theorem blk_chg {w w' : World} {S : Nat → Prop} {b : Nat} {cs : Array Value} {T : TypeId} (h : Blk w b cs T) (k : Chg S w w') (hn : ¬ S b) : Blk w' b cs T := (k.block b h.lt hn).trans h
structure Wks (Rep : RepT) : Prop where
 save : SaveOk Rep
 drop : DropOk Rep
 hang : HangOk Rep
 unhang : UnhangOk Rep
 child : ChildOk Rep
 list : ListOk Rep
end Go.Proofs.YtogdjbhjgbnicaaGreatDoor.WalkD