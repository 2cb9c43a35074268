import Derived.Test.YtogdjbhjgbnicaaGreatDoorSq
import Derived.Test.YtogdjbhjgbnicaaGreatDoorOpsPartsMAW
import Derived.Test.YtogdjbhjgbnicaaGreatDoorTreeK
import Derived.Test.YtogdjbhjgbnicaaGreatDoorLst
import Derived.Laws.ResultCell
import Derived.Deep.Cut
import Derived.Deep.RegionLaw
import Derived.Test.YtogdjbhjgbnicaaGreatDoorOpsPartsMAS
import Derived.Deep.MidRow
set_option maxHeartbeats 16000000
set_option linter.unusedVariables false
set_option linter.unusedSimpArgs false
set_option maxRecDepth 100000
namespace Go.Proofs.YtogdjbhjgbnicaaGreatDoor.TreeG
open Go.RowKit
open Byte KeysM TreeM Own Lst TreeR TreeL TreeB TreeD TreeF TreeK TreeJ TreeQ
def TRep (w : World) (v : Value) (L : List Pr) (h : Nat) : Prop := ∃ b A t,v = .pointer (some ⟨b,0,none⟩) ∧ Vn w b A t ∧ t.ino = L ∧ Rise L ∧ t.Avl ∧ t.ht = h
theorem vn_new {W : World} {A : Option Addr} {t : Tt} (h : Nd W t A) : Vn (W.alloc (.cells #[.pointer A] 76)) W.heap.size A t := ⟨Blk.new_ _ _ _,h.below (bW_)⟩
theorem new_calls (w : World) : Calls Tryz.prog 10 #[] w fun e w' => ∃ v h,e = .returned v ∧ TRep w' v [] h ∧ Below w.heap.size w w' := by
 have H : Calls Tryz.prog 10 #[] w fun e w' => e = .returned (.pointer (some ⟨w.heap.size,0,none⟩)) ∧ w' = w.alloc (.cells #[.pointer none] 76) := by
  go_enter Tryz.func10,Tryz.ntmps10
  go_wp2_with fail
  go_ret
  exact ⟨rfl,rfl⟩
 refine H.mono ?_
 rintro e w' ⟨rfl,rfl⟩
 exact ⟨_,0,rfl,⟨_,none,.no,rfl,vn_new rfl,rfl,List.Pairwise.nil,trivial,rfl⟩,bW_⟩
def VnR (t : Tt) (w : World) (e : Ending) (w' : World) : Prop := ∃ b A,e = .returned (.pointer (some ⟨b,0,none⟩)) ∧ Vn w' b A t ∧ Below w.heap.size w w'
theorem setm_calls (b : Nat) (A : Option Addr) (t : Tt) (k x : ByteArray) (w : World) (h : Vn w b A t) (hn : t.sz ≤ 60000) : Calls Tryz.prog 148 #[.pointer (some ⟨b,0,none⟩),.string k,.string x] w (VnR (t.set ⟨k,x,false⟩) w) := by
 have HN := hQ_ h.2
 have HT := hQ_ h.1
 have HS := hQ_ hn
 clear h hn
 go_enter Tryz.func148,Tryz.ntmps148
 go_wp2_with (first
  | (go_at_call 74; refine (top_calls b A _ HT.out).mono ?_; rintro e w1 ⟨rfl,rfl⟩)
  | (go_at_call 164; refine (set_calls ⟨k,x,false⟩ t A _ HS.out HN.out).mono ?_; rintro e w2 ⟨A2,rfl,hn2,hb2⟩; have HN2 := hQ_ hn2; have HB2 := hQ_ hb2; clear hn2 hb2))
 go_ret
 exact ⟨_,_,rfl,vn_new HN2.out,HB2.out.alloc HB2.out.size _⟩
theorem cutm_yes (b : Nat) (A : Option Addr) (t : Tt) (k : ByteArray) (w : World) (h : Vn w b A t) (hr : Rise t.ino) (hn : t.sz ≤ 60000) (p : Pr) (hG : getL k t.ino = some p) (hp : ∃ x ∈ t.ino,x.key = k) : Calls Tryz.prog 158 #[.pointer (some ⟨b,0,none⟩),.string k] w (VnR (t.cut k) w) := by
 have HG := hQ_ (get_calls b A t k w h hr (some p) hG)
 have HN := hQ_ h.2
 have HT := hQ_ h.1
 have HS := hQ_ hn
 have HR := hQ_ hr
 have HP := hQ_ hp
 clear h hn hr hp hG
 go_enter Tryz.func158,Tryz.ntmps158
 go_wp2_with (first
  | (go_at_call 42; refine HG.out.mono ?_; rintro e w1 ⟨rfl,rfl⟩; dsimp only [GotV])
  | (go_at_call 74; refine (top_calls b A _ HT.out).mono ?_; rintro e w1 ⟨rfl,rfl⟩)
  | (go_at_call 171; refine (cut_calls t k A _ HS.out HR.out HP.out HN.out).mono ?_; rintro e w2 ⟨A2,rfl,hn2,hb2⟩; have HN2 := hQ_ hn2; have HB2 := hQ_ hb2; clear hn2 hb2))
 go_ret
 exact ⟨_,_,rfl,vn_new HN2.out,HB2.out.alloc HB2.out.size _⟩
theorem cutm_no (b : Nat) (A : Option Addr) (t : Tt) (k : ByteArray) (w : World) (h : Vn w b A t) (hr : Rise t.ino) (hG : getL k t.ino = none) : Calls Tryz.prog 158 #[.pointer (some ⟨b,0,none⟩),.string k] w (VnR t w) := by
 have HG := hQ_ (get_calls b A t k w h hr none hG)
 have HV := hQ_ h
 clear h hr hG
 go_enter Tryz.func158,Tryz.ntmps158
 go_wp2_with (go_at_call 42; refine HG.out.mono ?_; rintro e w1 ⟨rfl,rfl⟩; dsimp only [GotV])
 go_ret
 exact ⟨_,_,rfl,HV.out,Below.refl _ _⟩
theorem len_calls (b : Nat) (A : Option Addr) (t : Tt) (w : World) (h : Vn w b A t) (n : Nat) (hn : t.sz = n) : Calls Tryz.prog 72 #[.pointer (some ⟨b,0,none⟩)] w fun e w' => e = .returned (.int .i64 (n : Nat)) ∧ w = w' := by
 have HN := hQ_ h.2
 have HT := hQ_ h.1
 have HS := hQ_ hn
 clear h hn
 go_enter Tryz.func72,Tryz.ntmps72
 go_wp2_with (first
  | (go_at_call 74; refine (top_calls b A _ HT.out).mono ?_; rintro e w1 ⟨rfl,rfl⟩)
  | (go_at_call 96; refine (size_calls t A _ HN.out n HS.out).mono ?_; rintro e w1 ⟨rfl,rfl⟩))
 go_ret
 exact ⟨rfl,rfl⟩
theorem range_made (b : Nat) (A : Option Addr) (t : Tt) (x y : ByteArray) (w : World) (h : Vn w b A t) (hr : Rise t.ino) (hn : t.sz ≤ 60000) : Calls Tryz.prog 44 #[.pointer (some ⟨b,0,none⟩),.string x,.string y] w (Made (rangeL x y t.ino) w) := by
 have HN := hQ_ h.2
 have HT := hQ_ h.1
 have HS := hQ_ hn
 have HR := hQ_ hr
 clear h hn hr
 have G := hQ_ (gather_calls x y t A w w.heap.size (.slice none 0 0) [] HR.out HN.out (So.nil_ _ _ _ _) (Nat.le_refl _) (by have := HS.out; simp only [List.length_nil]; omega))
 go_enter Tryz.func44,Tryz.ntmps44
 go_wp2_with (first
  | (go_at_call 74; refine (top_calls b A _ HT.out).mono ?_; rintro e w1 ⟨rfl,rfl⟩)
  | (go_at_call 77; refine G.out.mono ?_; rintro e w2 ⟨v,rfl,ho,hb2,_,_⟩; have HO := hQ_ ho; have HB2 := hQ_ hb2; clear ho hb2))
 go_ret
 exact ⟨_,rfl,HO.out,HB2.out⟩
theorem has_get {L : List Pr} {k : ByteArray} {p : Pr} (h : getL k L = some p) : ∃ x ∈ L,x.key = k := ⟨p,List.mem_of_find?_eq_some h,by simpa using List.find?_some h⟩
theorem cut_none {L : List Pr} {k : ByteArray} (h : getL k L = none) : cutL k L = L := List.filter_eq_self.2 fun p hp => by
 have := List.find?_eq_none.1 h p hp
 simpa using this
end Go.Proofs.YtogdjbhjgbnicaaGreatDoor.TreeG
namespace Go.Proofs.YtogdjbhjgbnicaaGreatDoor.Chg
open Go.RowKit
open Byte Own Lst
structure Chg (S : Nat → Prop) (w w' : World) : Prop where
 os : w'.os = w.os
 tape : w'.tape = w.tape
 output : w'.output = w.output
 size : w.heap.size ≤ w'.heap.size
 block : ∀ k,k < w.heap.size → ¬ S k → w'.heap[k]? = w.heap[k]?
section
variable {S : Nat → Prop} {a b c w w' : World}
theorem Chg.refl (S : Nat → Prop) (w : World) : Chg S w w := ⟨rfl,rfl,rfl,Nat.le_refl _,fun _ _ _ => rfl⟩
theorem Chg.trans (h : Chg S a b) (k : Chg S b c) : Chg S a c :=
 ⟨k.os.trans h.os,k.tape.trans h.tape,k.output.trans h.output,Nat.le_trans h.size k.size,fun i hi hn => (k.block i (Nat.lt_of_lt_of_le hi h.size) hn).trans (h.block i hi hn)⟩
theorem Chg.mono {T : Nat → Prop} (h : Chg S a b) (hs : ∀ k,k < a.heap.size → S k → T k) : Chg T a b :=
 ⟨h.os,h.tape,h.output,h.size,fun i hi hn => h.block i hi (fun hk => hn (hs i hi hk))⟩
theorem Chg.drew (h : Chg S a b) : Chg S a b.drew := ⟨h.os,h.tape,h.output,h.size,h.block⟩
theorem Chg.alloc (h : Chg S a b) (o : Obj) : Chg S a (b.alloc o) :=
 h.trans ⟨rfl,rfl,rfl,by simp,fun k hk _ => Below.heap_alloc _ _ _ hk⟩
theorem Chg.setCell (h : Chg S a b) {p : Addr} (hp : S p.block ∨ a.heap.size ≤ p.block) (u : Value) : Chg S a (b.setCell p u) :=
 ⟨h.os,h.tape,h.output,by simpa [World.setCell] using h.size,fun k hk hn => (Below.heap_setCell _ _ _ _ (by
   rintro rfl
   rcases hp with hp | hp
   ·exact hn hp
   ·omega)).trans (h.block k hk hn)⟩
theorem Chg.own {d : Nat} (h : Chg (fun k => k = d) a b) (i : Nat) (u : Value) : Chg (fun k => k = d) a (b.setCell ⟨d,i,none⟩ u) := h.setCell (.inl rfl) u
theorem Chg.of_below (h : Below a.heap.size a b) : Chg S a b := ⟨h.os,h.tape,h.output,h.size,fun k hk _ => h.block k hk⟩
theorem Chg.of_grown {row : Option Nat} (h : a.grownBy b row) (hs : ∀ k,row = some k → S k ∨ a.heap.size ≤ k) : Chg S a b :=
 ⟨h.os,h.tape,h.output,h.size,fun k hk hn => h.block k hk (fun e => by
   rcases hs k e.symm with h1 | h1
   ·exact hn h1
   ·omega)⟩
theorem Chg.then_ {T : Nat → Prop} (h : Chg S a b) (k : Chg T b c) (ht : ∀ i,i < a.heap.size → T i → S i) : Chg S a c :=
 ⟨k.os.trans h.os,k.tape.trans h.tape,k.output.trans h.output,Nat.le_trans h.size k.size,fun i hi hn => (k.block i (Nat.lt_of_lt_of_le hi h.size) (fun hk => hn (ht i hi hk))).trans (h.block i hi hn)⟩
end
theorem Chg.cell {S : Nat → Prop} {w w' : World} (h : Chg S w w') {p : Addr} {v : Value} (hc : w.cell? p = some v) (hn : ¬ S p.block) : w'.cell? p = some v :=
 (World.cell?_of_block (w := w) (h.block p.block (World.block_lt_of_cell? w p hc) hn)).trans hc
theorem Sl.chg {α : Type} {e : Enc α} {S : Nat → Prop} {w w' : World} {A : Option Addr} {n : Nat} {L : List α} (h : Sl e w A n L) (k : Chg S w w') (hA : ∀ b o,A = some ⟨b,o,none⟩ → ¬ S b) : Sl e w' A n L := by
 refine ⟨h.1,fun j x hj => ?_⟩
 obtain ⟨b,o,e1,hlt,hc⟩ := h.2 j x hj
 exact ⟨b,o,e1,Nat.lt_of_lt_of_le hlt k.size,fun i v hv => k.cell (p := ⟨b,o + j * e.size + i,none⟩) (hc i v hv) (hA b o e1)⟩
def Grow (w : World) (S S' : Nat → Prop) : Prop := ∀ b,S' b → S b ∨ w.heap.size ≤ b
theorem Grow.refl (w : World) (S : Nat → Prop) : Grow w S S := fun b h => .inl h
theorem Grow.trans {w w' : World} {S S' T : Nat → Prop} (h : Grow w S S') (k : Grow w' S' T) (hs : w.heap.size ≤ w'.heap.size) : Grow w S T := fun b hb => by
 rcases k b hb with h1 | h1
 ·exact h b h1
 ·exact .inr (Nat.le_trans hs h1)
end Go.Proofs.YtogdjbhjgbnicaaGreatDoor.Chg
namespace Go.Proofs.YtogdjbhjgbnicaaGreatDoor.TreeH
open Go.RowKit
open Byte KeysM TreeM TreeB TreeD TreeE TreeF TreeG Own Lst TreeR TreeL Chg
variable {w w' : World} {v : Value} {L : List Pr} {h : Nat}
theorem tkeep (hr : TRep w v L h) (hk : Kept w w') : TRep w' v L h := by
 obtain ⟨b,A,t,rfl,hv,rest⟩ := hr
 exact ⟨b,A,t,rfl,⟨hk _ _ _ _ (.inl rfl) hv.1,hv.2.keep hk⟩,rest⟩
theorem trise (hr : TRep w v L h) : Rise L := by
 obtain ⟨b,A,t,rfl,hv,rfl,h2,_⟩ := hr
 exact h2
theorem tform (hr : TRep w v L h) : ∃ b,v = .pointer (some ⟨b,0,none⟩) ∧ b < w.heap.size := by
 obtain ⟨b,A,t,rfl,hv,_⟩ := hr
 exact ⟨b,rfl,hv.1.lt⟩
theorem tset (k x : ByteArray) (hr : TRep w v L h) (hl : L.length ≤ 50000) : Calls Tryz.prog 148 #[v,.string k,.string x] w fun e w' => ∃ v' h',e = .returned v' ∧ TRep w' v' (putL k x L) h' ∧ Below w.heap.size w w' := by
 obtain ⟨b,A,t,rfl,hv,rfl,h2,h3,rfl⟩ := hr
 rw [Tt.sz_ino] at hl
 refine (setm_calls b A t k x w hv (by omega)).mono ?_
 rintro e w' ⟨b',A',rfl,hv',hb'⟩
 exact ⟨_,_,rfl,⟨b',A',_,rfl,hv',Tt.ino_set t k x h2,rise_put h2 k x,(Tt.set_avl t _ h3).1,rfl⟩,hb'⟩
theorem tcut (k : ByteArray) (hr : TRep w v L h) (hl : L.length ≤ 50000) : Calls Tryz.prog 158 #[v,.string k] w fun e w' => ∃ v' h',e = .returned v' ∧ TRep w' v' (cutL k L) h' ∧ Below w.heap.size w w' := by
 obtain ⟨b,A,t,rfl,hv,rfl,h2,h3,rfl⟩ := hr
 rw [Tt.sz_ino] at hl
 cases hG : getL k t.ino with
 | none =>
   refine (cutm_no b A t k w hv h2 hG).mono ?_
   rintro e w' ⟨b',A',rfl,hv',hb'⟩
   exact ⟨_,_,rfl,⟨b',A',_,rfl,hv',(cut_none hG).symm,rise_cut h2 k,h3,rfl⟩,hb'⟩
 | some p =>
   refine (cutm_yes b A t k w hv h2 (by omega) p hG (has_get hG)).mono ?_
   rintro e w' ⟨b',A',rfl,hv',hb'⟩
   exact ⟨_,_,rfl,⟨b',A',_,rfl,hv',Tt.ino_cut t k h2,rise_cut h2 k,(Tt.cut_avl t k h3).1,rfl⟩,hb'⟩
theorem tget (k : ByteArray) (hr : TRep w v L h) (hl : L.length ≤ 50000) : Calls Tryz.prog 42 #[v,.string k] w fun e w' => e = .returned (GotV (getL k L)) ∧ w = w' := by
 obtain ⟨b,A,t,rfl,hv,rfl,h2,h3,rfl⟩ := hr
 exact TreeQ.get_calls b A t k w hv h2 _ rfl
theorem tlen (hr : TRep w v L h) (hl : L.length ≤ 50000) : Calls Tryz.prog 72 #[v] w fun e w' => e = .returned (.int .i64 (L.length : Nat)) ∧ w = w' := by
 obtain ⟨b,A,t,rfl,hv,rfl,h2,h3,rfl⟩ := hr
 exact len_calls b A t w hv _ (Tt.sz_ino t).symm
theorem trange (x y : ByteArray) (hr : TRep w v L h) (hl : L.length ≤ 50000) : Calls Tryz.prog 44 #[v,.string x,.string y] w (Made (rangeL x y L) w) := by
 obtain ⟨b,A,t,rfl,hv,rfl,h2,h3,rfl⟩ := hr
 rw [Tt.sz_ino] at hl
 exact range_made b A t x y w hv h2 (by omega)
end Go.Proofs.YtogdjbhjgbnicaaGreatDoor.TreeH
namespace Go.Proofs.YtogdjbhjgbnicaaGreatDoor.ViewL
open Go.RowKit
open Byte KeysM TreeM ViewM Own Lst Chg TreeR TreeL TreeG TreeH Ho ViewR ViewS
structure Lim (s : Vs) : Prop where
 base : s.base.length ≤ 1000
 rd : s.rd.length ≤ 20000
 rg : s.rg.length ≤ 1000
structure Stp (S D S' D' : Nat → Prop) (w w' : World) : Prop where
 chg : Chg S w w'
 kept : Kept w w'
 own : Grow w S S'
 dep : Grow w D D'
structure Stays (Rep : World → Value → Vs → (Nat → Prop) → (Nat → Prop) → Prop) : Prop where
 stay : ∀ {w w' v s S D} {T : Nat → Prop},Rep w v s S D → Chg T w w' → (∀ b,T b → ¬ D b) → Kept w w' → Rep w' v s S D
 ok : ∀ {w v s S D},Rep w v s S D → s.Ok
 lt : ∀ {w v s S D},Rep w v s S D → ∀ b,D b → b < w.heap.size
 sub : ∀ {w v s S D},Rep w v s S D → ∀ b,S b → D b
variable {Rep : World → Value → Vs → (Nat → Prop) → (Nat → Prop) → Prop}
theorem Stays.below (h : Stays Rep) {w w' : World} {v : Value} {s : Vs} {S D : Nat → Prop} (r : Rep w v s S D) (hb : Below w.heap.size w w') : Rep w' v s S D :=
 h.stay (T := fun _ => False) r (Chg.of_below hb) (fun _ h => h.elim) (Kept.of_below hb)
def NewOk (Rep : World → Value → Vs → (Nat → Prop) → (Nat → Prop) → Prop) : Prop := ∀ ⦃w t L h⦄,TRep w t L h → L.length ≤ 1000 → Calls Tryz.prog 9 #[t] w fun e w' => ∃ v S D,e = .returned v ∧ Rep w' v ⟨L,[],[],[]⟩ S D ∧ (∀ b,S b → w.heap.size ≤ b) ∧ (∀ b,D b → w.heap.size ≤ b) ∧ Below w.heap.size w w'
def GetOk (Rep : World → Value → Vs → (Nat → Prop) → (Nat → Prop) → Prop) : Prop := ∀ ⦃w v s S D⦄ (k : ByteArray),Rep w v s S D → Lim s → k.size ≤ 200000000000000 → Calls Tryz.prog 152 #[v,.string k] w fun e w' => ∃ S' D',e = .returned (GotV (getL k s.shown)) ∧ Rep w' v (s.read k) S' D' ∧ Stp S D S' D' w w'
def LookOk (Rep : World → Value → Vs → (Nat → Prop) → (Nat → Prop) → Prop) : Prop := ∀ ⦃w v s S D⦄ (k : ByteArray),Rep w v s S D → Lim s → k.size ≤ 200000000000000 → Calls Tryz.prog 134 #[v,.string k] w fun e w' => ∃ S' D',e = .returned (GotV (getL k s.shown)) ∧ Rep w' v s S' D' ∧ Stp S D S' D' w w'
def RangeOk (Rep : World → Value → Vs → (Nat → Prop) → (Nat → Prop) → Prop) : Prop := ∀ ⦃w v s S D⦄ (x y : ByteArray),Rep w v s S D → Lim s → x.size ≤ 200000000000000 → y.size ≤ 200000000000000 → Calls Tryz.prog 25 #[v,.string x,.string y] w fun e w' => ∃ (r : Sh) (S' D' : Nat → Prop),e = .returned (.slice r.a r.n r.c) ∧ Sl prE w' r.a r.n (s.rangeOf x y) ∧ (0 < r.n → NewA w r) ∧ Rep w' v (s.ranged x y) S' D' ∧ Stp S D S' D' w w'
def SetOk (Rep : World → Value → Vs → (Nat → Prop) → (Nat → Prop) → Prop) : Prop := ∀ ⦃w v s S D⦄ (k x : ByteArray),Rep w v s S D → Lim s → k.size ≤ 200000000000000 → x.size ≤ 200000000000000 → Calls Tryz.prog 122 #[v,.string k,.string x] w fun e w' => ∃ S' D',e = .returned (.bool (!fullW s.wr ⟨k,x,false⟩)) ∧ Rep w' v (s.write ⟨k,x,false⟩) S' D' ∧ Stp S D S' D' w w'
def CutOk (Rep : World → Value → Vs → (Nat → Prop) → (Nat → Prop) → Prop) : Prop := ∀ ⦃w v s S D⦄ (k : ByteArray),Rep w v s S D → Lim s → k.size ≤ 200000000000000 → Calls Tryz.prog 133 #[v,.string k] w fun e w' => ∃ S' D',e = .returned (.bool (!fullW s.wr ⟨k,⟨#[]⟩,true⟩)) ∧ Rep w' v (s.write ⟨k,⟨#[]⟩,true⟩) S' D' ∧ Stp S D S' D' w w'
theorem below_chg {B : Nat} {w w1 w2 : World} {S : Nat → Prop} (h : Below B w w1) (k : Chg S w1 w2) (hS : ∀ b,S b → B ≤ b) (hB : B ≤ w.heap.size) : Below B w w2 :=
 ⟨k.os.trans h.os,k.tape.trans h.tape,k.output.trans h.output,Nat.le_trans h.size k.size,fun i hi => (k.block i (by have := h.size; omega) (fun hk => by have := hS i hk; omega)).trans (h.block i hi)⟩
theorem new_own {w1 : World} {S S' : Nat → Prop} {B : Nat} (hS : ∀ b,S b → B ≤ b) (hB : B ≤ w1.heap.size) (g : Grow w1 S S') : ∀ b,S' b → B ≤ b := fun b hb => by
 rcases g b hb with h | h
 ·exact hS b h
 ·omega
end Go.Proofs.YtogdjbhjgbnicaaGreatDoor.ViewL
namespace Go.Proofs.YtogdjbhjgbnicaaGreatDoor.ViewD
open Go.RowKit
open Byte KeysM TreeM ViewM Own Lst Chg TreeR TreeL TreeG TreeH Ho ViewR ViewS ViewL
variable {Rep : World → Value → Vs → (Nat → Prop) → (Nat → Prop) → Prop}
theorem Kept.trans {a b c : World} (h : Kept a b) (k : Kept b c) : Kept a c := fun q cs U fr hU hb => k q cs U fr hU (h q cs U fr hU hb)
theorem kept_set {W : World} {r : Nat} {cs : Array Value} {T : TypeId} (h : Blk W r cs T) (hne : 76 ≠ T ∧ 125 ≠ T) (i : Nat) (u : Value) : Kept W (W.setCell ⟨r,i,none⟩ u) := fun q cs' U fr hU hb => by
 by_cases e : q = r
 ·subst e
  unfold Blk at h
  rw [h] at hb
  injection hb with hb
  injection hb with _ hT _
  subst hT
  rcases hU with h1 | h1
  ·exact absurd h1.symm hne.1
  ·exact absurd h1.symm hne.2
 ·exact (Below.heap_setCell W ⟨r,i,none⟩ u q e).trans hb
theorem blk_chg {S : Nat → Prop} {w w' : World} {g : Nat} {cs : Array Value} {t : TypeId} (h : Blk w g cs t) (k : Chg S w w') (hg : ¬ S g) : Blk w' g cs t := (k.block g h.lt hg).trans h
end Go.Proofs.YtogdjbhjgbnicaaGreatDoor.ViewD
namespace Go.Proofs.YtogdjbhjgbnicaaGreatDoor.ViewP
open Go.RowKit
open Byte KeysM TreeM ViewM Own Lst Chg TreeR TreeL TreeG TreeH Ho ViewR ViewS ViewL ViewD
variable {Rep : World → Value → Vs → (Nat → Prop) → (Nat → Prop) → Prop}
theorem add_len (a b : ByteArray) (G : List (ByteArray × ByteArray)) : (addR a b G).length ≤ G.length + 1 := by
 unfold addR
 split
 ·omega
 ·simp
theorem kept_grown {W W' : World} {r : Nat} {cs : Array Value} {T : TypeId} (h : Blk W r cs T) (hne : 76 ≠ T ∧ 125 ≠ T) (hg : W.grownBy W' (some r)) : Kept W W' := fun q cs' U fr hU hb => by
 by_cases e : q = r
 ·subst e
  unfold Blk at h
  rw [h] at hb
  injection hb with hb
  injection hb with _ hT _
  subst hT
  rcases hU with h1 | h1
  ·exact absurd h1.symm hne.1
  ·exact absurd h1.symm hne.2
 ·have hlt : q < W.heap.size := (Array.getElem?_eq_some_iff.1 hb).1
  exact (hg.block q hlt (fun h => e (by first | exact (Option.some.inj h).symm | exact Option.some.inj h))).trans hb
end Go.Proofs.YtogdjbhjgbnicaaGreatDoor.ViewP