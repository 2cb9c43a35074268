import Derived.Test.YtfalhnomhidkcaaGreatDoorSq
import Derived.Test.YtfalhnomhidkcaaGreatDoorDirsThereMBT
import Derived.WalkSmall
import Derived.Test.YtfalhnomhidkcaaGreatDoorViewKm
import Derived.Test.YtfalhnomhidkcaaGreatDoorDirsThereMBN
import Derived.Test.YtfalhnomhidkcaaGreatDoorTx
import Derived.StillTailTactics
import Derived.Deep.AppendLies
import Derived.Deep.RegionLaw
import Derived.WalkSpells
import Derived.Test.YtfalhnomhidkcaaGreatDoorProg
import Derived.StringKeys
import Derived.Maps.Own
import Derived.Maps.OwnOps
import Derived.Maps.OwnSet
import Derived.Maps.Views
import Derived.Test.YtfalhnomhidkcaaGreatDoorDirsThereMBV
import Derived.Test.YtfalhnomhidkcaaGreatDoorOwn
import Derived.Deep.DeepCutAuto
import Derived.Deep.CutBlock
set_option maxHeartbeats 16000000
set_option linter.unusedVariables false
set_option linter.unusedSimpArgs false
set_option maxRecDepth 100000
namespace Go.Proofs.YtfalhnomhidkcaaGreatDoor.ViewKn
open Go.RowKit
open Byte KeysM TreeM TreeB TreeD TreeE TreeF TreeJ TreeQ TreeG TreeH Own Lst TreeR TreeL Chg
variable {w w' : World} {v : Value} {L : List Pr}
theorem top_nil (w : World) : Calls Tryz.prog 102 #[.pointer none] w fun e w' => e = .returned (.pointer none) ∧ w = w' := by
 go_enter Tryz.func102,Tryz.ntmps102
 go_wp2_with fail
 go_ret
 exact ⟨rfl,rfl⟩
theorem get_nil (k : ByteArray) (w : World) : Calls Tryz.prog 57 #[.pointer none,.string k] w fun e w' => e = .returned (GotV none) ∧ w = w' := by
 go_enter Tryz.func57,Tryz.ntmps57
 go_wp2_with (go_at_call 102; refine (top_nil _).mono ?_; rintro e w1 ⟨rfl,rfl⟩)
 go_loopg [6] 0 (fun m n wr => n = .pointer none ∧ wr = w)
 case atStart => exact ⟨rfl,rfl⟩
 case round =>
  obtain ⟨rfl,rfl⟩ := hrel
  go_wp2_with fail
  go_ret2
  exact ⟨rfl,rfl⟩
theorem set_nil (k x : ByteArray) (w : World) : Calls Tryz.prog 53 #[.pointer none,.string k,.string x] w (VnR (Tt.no.set ⟨k,x,false⟩) w) := by
 have HN : Hid (Nd w Tt.no none) := hQ_ rfl
 have HS : Hid (Tt.no.sz ≤ 60000) := hQ_ (Nat.zero_le _)
 go_enter Tryz.func53,Tryz.ntmps53
 go_wp2_with (first
  | (go_at_call 102; refine (top_nil _).mono ?_; rintro e w1 ⟨rfl,rfl⟩)
  | (go_at_call 103; refine (set_calls ⟨k,x,false⟩ Tt.no none _ HS.out HN.out).mono ?_; rintro e w2 ⟨A2,rfl,hn2,hb2⟩; have HN2 := hQ_ hn2; have HB2 := hQ_ hb2; clear hn2 hb2))
 go_ret
 exact ⟨_,_,rfl,vn_new HN2.out,HB2.out.alloc HB2.out.size _⟩
theorem cut_nil (k : ByteArray) (w : World) : Calls Tryz.prog 151 #[.pointer none,.string k] w fun e w' => e = .returned (.pointer none) ∧ w = w' := by
 go_enter Tryz.func151,Tryz.ntmps151
 go_wp2_with (go_at_call 57; refine (get_nil _ _).mono ?_; rintro e w1 ⟨rfl,rfl⟩; dsimp only [GotV])
 go_ret
 exact ⟨rfl,rfl⟩
theorem len_nil (w : World) : Calls Tryz.prog 106 #[.pointer none] w fun e w' => e = .returned (.int .i64 (0 : Nat)) ∧ w = w' := by
 have HN : Hid (Nd w Tt.no none) := hQ_ rfl
 go_enter Tryz.func106,Tryz.ntmps106
 go_wp2_with (first
  | (go_at_call 102; refine (top_nil _).mono ?_; rintro e w1 ⟨rfl,rfl⟩)
  | (go_at_call 142; refine (size_calls Tt.no none _ HN.out 0 rfl).mono ?_; rintro e w1 ⟨rfl,rfl⟩))
 go_ret
 exact ⟨rfl,rfl⟩
theorem range_nil (x y : ByteArray) (w : World) : Calls Tryz.prog 60 #[.pointer none,.string x,.string y] w (Made [] w) := by
 have HN : Hid (Nd w Tt.no none) := hQ_ rfl
 have HR : Hid (Rise Tt.no.ino) := hQ_ List.Pairwise.nil
 have G := hQ_ (gather_calls x y Tt.no none w w.heap.size (.slice none 0 0) [] HR.out HN.out (So.nil_ _ _ _ _) (Nat.le_refl _) (by decide))
 go_enter Tryz.func60,Tryz.ntmps60
 go_wp2_with (first
  | (go_at_call 102; refine (top_nil _).mono ?_; rintro e w1 ⟨rfl,rfl⟩)
  | (go_at_call 110; refine G.out.mono ?_; rintro e w2 ⟨v,rfl,ho,hb2,_,_⟩; have HO := hQ_ ho; have HB2 := hQ_ hb2; clear ho hb2))
 go_ret
 exact ⟨_,rfl,HO.out,HB2.out⟩
def TN (w : World) (v : Value) (L : List Pr) : Prop := (v = .pointer none ∧ L = []) ∨ ∃ h,TRep w v L h
theorem TN.of {h : Nat} (r : TRep w v L h) : TN w v L := .inr ⟨h,r⟩
theorem TN.keep (h : TN w v L) (hk : Kept w w') : TN w' v L := by
 rcases h with h | ⟨n,h⟩
 ·exact .inl h
 ·exact .inr ⟨n,tkeep h hk⟩
theorem TN.below (h : TN w v L) (hb : Below w.heap.size w w') : TN w' v L := h.keep (Kept.of_below hb)
theorem TN.form (h : TN w v L) : ∃ A,v = .pointer A := by
 rcases h with ⟨rfl,_⟩ | ⟨n,h⟩
 ·exact ⟨_,rfl⟩
 ·obtain ⟨b,rfl,_⟩ := tform h
  exact ⟨_,rfl⟩
theorem tnset (k x : ByteArray) (h : TN w v L) (hl : L.length ≤ 50000) : Calls Tryz.prog 53 #[v,.string k,.string x] w fun e w' => ∃ v',e = .returned v' ∧ TN w' v' (putL k x L) ∧ Below w.heap.size w w' := by
 rcases h with ⟨rfl,rfl⟩ | ⟨n,h⟩
 ·refine (set_nil k x w).mono ?_
  rintro e w' ⟨b',A',rfl,hv',hb'⟩
  exact ⟨_,rfl,.of (h := (Tt.no.set ⟨k,x,false⟩).ht) ⟨b',A',_,rfl,hv',Tt.ino_set .no k x List.Pairwise.nil,rise_put List.Pairwise.nil k x,(Tt.set_avl .no _ trivial).1,rfl⟩,hb'⟩
 ·refine (tset k x h hl).mono ?_
  rintro e w' ⟨v',h',rfl,hr,hb⟩
  exact ⟨v',rfl,.of hr,hb⟩
theorem tncut (k : ByteArray) (h : TN w v L) (hl : L.length ≤ 50000) : Calls Tryz.prog 151 #[v,.string k] w fun e w' => ∃ v',e = .returned v' ∧ TN w' v' (cutL k L) ∧ Below w.heap.size w w' := by
 rcases h with ⟨rfl,rfl⟩ | ⟨n,h⟩
 ·refine (cut_nil k w).mono ?_
  rintro e w' ⟨rfl,rfl⟩
  exact ⟨_,rfl,.inl ⟨rfl,rfl⟩,Below.refl _ _⟩
 ·refine (tcut k h hl).mono ?_
  rintro e w' ⟨v',h',rfl,hr,hb⟩
  exact ⟨v',rfl,.of hr,hb⟩
theorem tnget (k : ByteArray) (h : TN w v L) (hl : L.length ≤ 50000) : Calls Tryz.prog 57 #[v,.string k] w fun e w' => e = .returned (GotV (getL k L)) ∧ w = w' := by
 rcases h with ⟨rfl,rfl⟩ | ⟨n,h⟩
 ·exact get_nil k w
 ·exact tget k h hl
theorem tnlen (h : TN w v L) (hl : L.length ≤ 50000) : Calls Tryz.prog 106 #[v] w fun e w' => e = .returned (.int .i64 (L.length : Nat)) ∧ w = w' := by
 rcases h with ⟨rfl,rfl⟩ | ⟨n,h⟩
 ·exact len_nil w
 ·exact tlen h hl
theorem tnrange (x y : ByteArray) (h : TN w v L) (hl : L.length ≤ 50000) : Calls Tryz.prog 60 #[v,.string x,.string y] w (Made (rangeL x y L) w) := by
 rcases h with ⟨rfl,rfl⟩ | ⟨n,h⟩
 ·exact range_nil x y w
 ·exact trange x y h hl
end Go.Proofs.YtfalhnomhidkcaaGreatDoor.ViewKn
namespace Go.Proofs.YtfalhnomhidkcaaGreatDoor.ViewKr
open Go.RowKit
open Byte KeysM TreeM ViewM ViewKm ViewKn Own Lst Chg TreeR TreeL TreeG TreeH Ho ViewR ViewS
theorem tl_ne {a b : ByteArray} (h : a ≠ b) : a.toList ≠ b.toList := by simpa using TreeQ.neq_false h
theorem eq2 (a b c d : ByteArray) (w : World) : (Op.equalIn 10000 117 (.agg #[.string a,.string b]) (.agg #[.string c,.string d])).run Tryz.prog w = .ok (decide (a = c) && decide (b = d)) w := by
 have u5 := Tryz.underlying9
 have a5 := Tryz.isAgg9
 have z5 := Tryz.sizeOf9
 rw [show (10000 : Nat) = 9999 + 1 from rfl,Op.equalIn]
 simp only [Sem.run_bind,run_underlying Tryz.underlying117,Result.andThen_ok]
 simp only [Std.Legacy.Range.forIn_eq_forIn_range',Std.Legacy.Range.size,Nat.sub_zero,Nat.add_sub_cancel,Nat.div_one,List.range'_succ,List.range'_zero,List.forIn_cons,List.forIn_nil]
 go_simp
 by_cases h1 : a = c
 ·subst h1
  by_cases h2 : b = d
  ·subst h2
   simp
  ·simp [h2,tl_ne h2]
 ·by_cases h2 : b = d
  ·subst h2
   simp [h1,tl_ne h1]
  ·simp [h1,h2,tl_ne h1]
theorem rg_cells {w : World} {b o k : Nat} {x : ByteArray × ByteArray} (h : w.rangeAt b (o + k * rgE.size) (rgE.cells x)) : w.cell? ⟨b,o + k * 2,none⟩ = some (.string x.1) ∧ w.cell? ⟨b,o + k * 2 + 1,none⟩ = some (.string x.2) := ⟨h 0 _ rfl,h 1 _ rfl⟩
def HasR (x y : ByteArray) (L : List (ByteArray × ByteArray)) (w : World) (e : Ending) (w' : World) : Prop := ∃ i : Int,e = .returned (.int .i64 i) ∧ decide (0 ≤ i) = hasR x y L ∧ Below w.heap.size w w'
theorem index_calls (A : Option Addr) (n c : Nat) (L : List (ByteArray × ByteArray)) (x y : ByteArray) (w : World) (hl : Sl rgE w A n L) (hn : n ≤ 100000) :
 Calls Tryz.prog 109 #[.slice A n c,.agg #[.string x,.string y]] w (HasR x y L w) := by
 have HL := hQ_ hl
 clear hl
 have HX := hQ_ (Blk.new_ w #[.string x,.string y] 117)
 have hb0 := bX_ HX.out
 have HB0 := hQ_ hb0
 clear hb0
 go_enter Tryz.func109,Tryz.ntmps109
 go_wp2
 go_loopw [8] (fun i wr => ∃ k : Nat,k ≤ n ∧ i = .int .i64 k ∧ Hid (∀ j p,j < k → L[j]? = some p → ¬ (p.1 = x ∧ p.2 = y)) ∧ Hid (Below (w.alloc (.cells #[.string x,.string y] 117)).heap.size (w.alloc (.cells #[.string x,.string y] 117)) wr)) (fun i _ => n - (intOf i).toNat)
 case atStart => exact ⟨0,Nat.zero_le _,rfl,hQ_ (fun j p hj => by omega),hQ_ (Below.refl _ _)⟩
 case round =>
  obtain ⟨k,hk,rfl,HNO,HB⟩ := hrel
  by_cases hlt : k < n
  ·obtain ⟨p,g,o,hp,rfl,hg,hcl⟩ := (HL.out.below (keeps HB0.out HB.out)).get k hlt
   obtain ⟨c1,c2⟩ := rg_cells hcl
   have d1 : wr.cell? ⟨w.heap.size,0,none⟩ = some (.string x) := (HX.out.below HB.out).cell 0
   have d2 : wr.cell? ⟨w.heap.size,1,none⟩ = some (.string y) := (HX.out.below HB.out).cell 1
   have HP := hQ_ hp
   have heq := eq2 x y p.1 p.2
   clear hp hcl
   by_cases hq : x = p.1 ∧ y = p.2
   ·have he : ∀ v,(Op.equalIn 10000 117 (.agg #[.string x,.string y]) (.agg #[.string p.1,.string p.2])).run Tryz.prog v = .ok true v := fun v => by rw [heq v,decide_eq_true hq.1,decide_eq_true hq.2]; rfl
    have HQ := hQ_ hq
    clear heq hq
    go_wp2
    go_quiet (fail)
    go_wp2_with fail
    go_ret
    exact ⟨_,rfl,by rw [has_yes HP.out HQ.out.1.symm HQ.out.2.symm]; exact decide_eq_true (by omega),below_drewN (keeps HB0.out HB.out) _⟩
   ·have he : ∀ v,(Op.equalIn 10000 117 (.agg #[.string x,.string y]) (.agg #[.string p.1,.string p.2])).run Tryz.prog v = .ok false v := fun v => by
     rw [heq v]
     congr 1
     rw [← Bool.not_eq_true,Bool.and_eq_true,decide_eq_true_eq,decide_eq_true_eq]
     exact hq
    have HNO2 : Hid (∀ j q,j < k + 1 → L[j]? = some q → ¬ (q.1 = x ∧ q.2 = y)) := hQ_ (fun j q hj hjq => by
     rcases Nat.lt_or_ge j k with h1 | h1
     ·exact HNO.out j q h1 hjq
     ·obtain rfl : j = k := by omega
      have := HP.out
      rw [hjq] at this
      injection this with this
      subst this
      exact fun h => hq ⟨h.1.symm,h.2.symm⟩)
    clear heq hq
    go_wp2
    go_quiet (fail)
    go_wp2_with fail
    go_roundw
    case rel => exact ⟨k + 1,by omega,by go_num,HNO2,hQ_ (below_drewN HB.out _)⟩
    case measure => simp [intOf]; omega
  ·obtain rfl : k = n := by omega
   go_wp2_with fail
   go_ret
   exact ⟨_,rfl,by rw [has_no (fun j p hj hp => HNO.out j p (by rw [← HL.out.1]; exact hj) hp)]; exact decide_eq_false (by omega),keeps HB0.out HB.out⟩
theorem contains_calls (A : Option Addr) (n c : Nat) (L : List (ByteArray × ByteArray)) (x y : ByteArray) (w : World) (hl : Sl rgE w A n L) (hn : n ≤ 100000) :
 Calls Tryz.prog 59 #[.slice A n c,.agg #[.string x,.string y]] w fun e w' => e = .returned (.bool (hasR x y L)) ∧ Below w.heap.size w w' := by
 have HX := hQ_ (Blk.new_ w #[.string x,.string y] 117)
 have hb0 := bX_ HX.out
 have HI := hQ_ (index_calls A n c L x y _ (hl.below hb0) hn)
 have HB0 := hQ_ hb0
 clear hb0 hl
 go_enter Tryz.func59,Tryz.ntmps59
 go_wp2_with (first
  | ((with_reducible refine pick (some 6) ?_); refine load_blk rfl 117 _ rfl w.heap.size rfl 117 #[.string x,.string y] _ HX.out Tryz.underlying117 rfl (by kernel_rfl) ?_)
  | (go_at_call 109; refine HI.out.mono ?_; rintro e w1 ⟨i,rfl,hi,hb1⟩; have HH := hQ_ hi; have HB1 := hQ_ hb1; clear hi hb1))
 go_ret
 exact ⟨congrArg Ending.returned (congrArg Value.bool HH.out),keeps HB0.out HB1.out⟩
end Go.Proofs.YtfalhnomhidkcaaGreatDoor.ViewKr
namespace Go.Proofs.YtfalhnomhidkcaaGreatDoor.ViewKs
open Go.RowKit
open Byte KeysM TreeM ViewM ViewKm ViewKn ViewKr Own Lst Chg TreeR TreeL TreeG TreeH Ho ViewR
theorem So.chg {α : Type} {e : Enc α} {T : TypeId} {w w' : World} {base n : Nat} {v : Value} {L : List α} {S : Nat → Prop} (h : So e T w base v n L) (k : Chg S w w') (hn : ∀ g,v.ownBlock = some g → ¬ S g) : So e T w' base v n L := by
 obtain ⟨h1,h2,h4⟩ := h
 refine ⟨h1,h2,?_⟩
 rcases h4 with h4 | ⟨g,cap,cur,e1,e2,e3,rest⟩
 ·exact .inl h4
 ·have hlt : g < w.heap.size := by
   rcases Nat.lt_or_ge g w.heap.size with h | h
   ·exact h
   ·rw [Array.getElem?_eq_none h] at e3
    cases e3
  exact .inr ⟨g,cap,cur,e1,e2,(k.block g hlt (hn g (by rw [e1]; rfl))).trans e3,rest⟩
theorem So.apart {α : Type} {e : Enc α} {T U : TypeId} {w : World} {base n g : Nat} {v : Value} {L : List α} {cs : Array Value} (h : So e T w base v n L) (hb : Blk w g cs U) (hne : U ≠ T) : ∀ k,v.ownBlock = some k → k ≠ g := fun k hk e => by
 subst e
 rcases h.2.2 with ⟨h1,_⟩ | ⟨g',cap,cur,h1,_,h3,_⟩
 ·rw [h1] at hk
  cases hk
 ·rw [h1] at hk
  have : g' = k := by injection hk
  subst this
  unfold Blk at hb
  rw [hb] at h3
  injection h3 with h3
  injection h3 with _ h3
  exact hne h3
structure VC (w : World) (g : Nat) (b sh wt rd rg : Value) (B S W R : List Pr) (G : List (ByteArray × ByteArray)) : Prop where
 blk : Blk w g #[b,sh,wt,rd,rg] 97
 base : TN w b B
 shown : TN w sh S
 wr : TN w wt W
 read : TN w rd R
 rgs : So rgE 117 w 0 rg G.length G
section
variable {w w' : World} {g : Nat} {b sh wt rd rg : Value} {B S W R : List Pr} {G : List (ByteArray × ByteArray)}
theorem VC.apart (h : VC w g b sh wt rd rg B S W R G) : ∀ k,rg.ownBlock = some k → k ≠ g := So.apart h.rgs h.blk (by decide)
theorem VC.lt (h : VC w g b sh wt rd rg B S W R G) : g < w.heap.size := h.blk.lt
theorem VC.stay {T : Nat → Prop} (h : VC w g b sh wt rd rg B S W R G) (c : Chg T w w') (k : Kept w w') (h1 : ¬ T g) (h2 : ∀ k,rg.ownBlock = some k → ¬ T k) : VC w' g b sh wt rd rg B S W R G :=
 ⟨ViewD.blk_chg h.blk c h1,h.base.keep k,h.shown.keep k,h.wr.keep k,h.read.keep k,So.chg h.rgs c h2⟩
theorem VC.below (h : VC w g b sh wt rd rg B S W R G) (hb : Below w.heap.size w w') : VC w' g b sh wt rd rg B S W R G :=
 ⟨h.blk.below hb,h.base.below hb,h.shown.below hb,h.wr.below hb,h.read.below hb,h.rgs.below hb⟩
theorem VC.cells (h : VC w g b sh wt rd rg B S W R G) : w.cell? ⟨g,0,none⟩ = some b ∧ w.cell? ⟨g,1,none⟩ = some sh ∧ w.cell? ⟨g,2,none⟩ = some wt ∧ w.cell? ⟨g,3,none⟩ = some rd ∧ w.cell? ⟨g,4,none⟩ = some rg ∧ (∀ i,w.frozen? ⟨g,i,none⟩ = false) :=
 ⟨h.blk.cell 0,h.blk.cell 1,h.blk.cell 2,h.blk.cell 3,h.blk.cell 4,h.blk.frozen⟩
theorem kset (h : VC w g b sh wt rd rg B S W R G) (i : Nat) (u : Value) : Kept w (w.setCell ⟨g,i,none⟩ u) := ViewD.kept_set h.blk (by decide) i u
theorem rset (h : VC w g b sh wt rd rg B S W R G) (i : Nat) (u : Value) : So rgE 117 (w.setCell ⟨g,i,none⟩ u) 0 rg G.length G :=
 So.chg h.rgs ((Chg.refl (fun k => k = g) w).own i u) (fun k hk e => h.apart k hk e)
theorem VC.put1 (h : VC w g b sh wt rd rg B S W R G) {u : Value} {S' : List Pr} (hu : TN w u S') : VC (w.setCell ⟨g,1,none⟩ u) g b u wt rd rg B S' W R G :=
 ⟨h.blk.set_ 1 u,h.base.keep (kset h 1 u),hu.keep (kset h 1 u),h.wr.keep (kset h 1 u),h.read.keep (kset h 1 u),rset h 1 u⟩
theorem VC.put2 (h : VC w g b sh wt rd rg B S W R G) {u : Value} {W' : List Pr} (hu : TN w u W') : VC (w.setCell ⟨g,2,none⟩ u) g b sh u rd rg B S W' R G :=
 ⟨h.blk.set_ 2 u,h.base.keep (kset h 2 u),h.shown.keep (kset h 2 u),hu.keep (kset h 2 u),h.read.keep (kset h 2 u),rset h 2 u⟩
theorem VC.put3 (h : VC w g b sh wt rd rg B S W R G) {u : Value} {R' : List Pr} (hu : TN w u R') : VC (w.setCell ⟨g,3,none⟩ u) g b sh wt u rg B S W R' G :=
 ⟨h.blk.set_ 3 u,h.base.keep (kset h 3 u),h.shown.keep (kset h 3 u),h.wr.keep (kset h 3 u),hu.keep (kset h 3 u),rset h 3 u⟩
def own (g : Nat) (rg : Value) : Nat → Prop := fun k => k = g ∨ rg.ownBlock = some k
structure Did (g : Nat) (rg : Value) (w w' : World) : Prop where
 chg : Chg (own g rg) w w'
 kept : Kept w w'
theorem Did.refl (g : Nat) (rg : Value) (w : World) : Did g rg w w := ⟨Chg.refl _ _,fun _ _ _ _ _ h => h⟩
theorem Did.below {w1 : World} (d : Did g rg w w1) (hb : Below w1.heap.size w1 w') : Did g rg w w' := ⟨d.chg.trans (Chg.of_below hb),ViewD.Kept.trans d.kept (Kept.of_below hb)⟩
theorem Did.set {w1 : World} (d : Did g rg w w1) (h : VC w1 g b sh wt rd rg B S W R G) (i : Nat) (u : Value) : Did g rg w (w1.setCell ⟨g,i,none⟩ u) :=
 ⟨d.chg.setCell (.inl (.inl rfl)) u,ViewD.Kept.trans d.kept (kset h i u)⟩
end
variable {w : World} {g : Nat} {b sh wt rd rg : Value} {B S W R : List Pr} {G : List (ByteArray × ByteArray)}
theorem look_calls (k : ByteArray) (h : VC w g b sh wt rd rg B S W R G) (hl : S.length ≤ 50000) :
 Calls Tryz.prog 22 #[.pointer (some ⟨g,0,none⟩),.string k] w fun e w' => e = .returned (GotV (getL k S)) ∧ w = w' := by
 have HG := hQ_ (tnget k h.shown hl)
 obtain ⟨_,c1,_,_,_,_⟩ := h.cells
 clear h
 cases hG : getL k S with
 | none =>
   rw [hG] at HG
   go_enter Tryz.func22,Tryz.ntmps22
   go_wp2_with (go_at_call 57; refine HG.out.mono ?_; rintro e w1 ⟨rfl,rfl⟩; dsimp only [GotV])
   go_ret2
   exact ⟨rfl,rfl⟩
 | some p =>
   rw [hG] at HG
   go_enter Tryz.func22,Tryz.ntmps22
   go_wp2_with (go_at_call 57; refine HG.out.mono ?_; rintro e w1 ⟨rfl,rfl⟩; dsimp only [GotV])
   go_ret2
   exact ⟨rfl,rfl⟩
theorem get_calls (k : ByteArray) (h : VC w g b sh wt rd rg B S W R G) (hl : S.length ≤ 50000) (hr : R.length ≤ 50000) :
 Calls Tryz.prog 62 #[.pointer (some ⟨g,0,none⟩),.string k] w fun e w' => ∃ rd',e = .returned (GotV (getL k S)) ∧ VC w' g b sh wt rd' rg B S W (putL k ⟨#[]⟩ R) G ∧ Did g rg w w' := by
 have HS := hQ_ (tnset k ⟨#[]⟩ h.read hr)
 obtain ⟨_,c1,_,c3,_,f3⟩ := h.cells
 have HV := hQ_ h
 clear h f3
 obtain ⟨o,ho⟩ : ∃ o,getL k S = o := ⟨_,rfl⟩
 have HO := hQ_ ho
 clear ho
 go_enter Tryz.func62,Tryz.ntmps62
 go_wp2_with (go_at_call 53; refine HS.out.mono ?_; rintro e w1 ⟨rd',rfl,hrd,hb1⟩; obtain ⟨A1,rfl⟩ := hrd.form; have HV1 := hQ_ (HV.out.below hb1); have HV2 := hQ_ (HV1.out.put3 hrd); have HD := hQ_ (((Did.refl g rg w).below hb1).set HV1.out 3 (.pointer A1)); obtain ⟨k0,k1,k2,k3,k4,k5⟩ := HV1.out.cells; have f3 := k5 3; clear hrd hb1 k5)
 refine (look_calls k HV2.out hl).mono ?_
 rintro e w2 ⟨rfl,rfl⟩
 rw [HO.out]
 cases o with
 | none =>
   dsimp only [GotV]
   go_wp2_with fail
   go_ret2
   exact ⟨_,by rw [HO.out]; rfl,HV2.out,HD.out⟩
 | some p =>
   dsimp only [GotV]
   go_wp2_with fail
   go_ret2
   exact ⟨_,by rw [HO.out]; rfl,HV2.out,HD.out⟩
def roomB (k : ByteArray) (W : List Pr) : Bool := (getL k W).isSome || decide (W.length < 48)
theorem room_calls (k : ByteArray) (h : VC w g b sh wt rd rg B S W R G) (hl : W.length ≤ 50000) :
 Calls Tryz.prog 148 #[.pointer (some ⟨g,0,none⟩),.string k] w fun e w' => e = .returned (.bool (roomB k W)) ∧ w = w' := by
 have HG := hQ_ (tnget k h.wr hl)
 have HL := hQ_ (tnlen h.wr hl)
 obtain ⟨n,hn⟩ : ∃ n,W.length = n := ⟨_,rfl⟩
 rw [hn] at HL hl
 have HN := hQ_ hn
 obtain ⟨_,_,c2,_,_,_⟩ := h.cells
 clear h hn
 unfold roomB
 rw [HN.out]
 cases hG : getL k W with
 | none =>
   rw [hG] at HG
   clear hG
   by_cases h48 : n < 48
   ·have d : decide (n < 48) = true := decide_eq_true h48
    have d2 : decide ((n : Int) < 48) = true := decide_eq_true (by omega)
    rw [d]
    clear d
    go_enter Tryz.func148,Tryz.ntmps148
    go_wp2_with (first
     | (go_at_call 57; refine HG.out.mono ?_; rintro e w1 ⟨rfl,rfl⟩; dsimp only [GotV])
     | (go_at_call 106; refine HL.out.mono ?_; rintro e w1 ⟨rfl,rfl⟩))
    go_ret
    exact ⟨by simp [d2],rfl⟩
   ·have d : decide (n < 48) = false := decide_eq_false h48
    have d2 : decide ((n : Int) < 48) = false := decide_eq_false (by omega)
    rw [d]
    clear d
    go_enter Tryz.func148,Tryz.ntmps148
    go_wp2_with (first
     | (go_at_call 57; refine HG.out.mono ?_; rintro e w1 ⟨rfl,rfl⟩; dsimp only [GotV])
     | (go_at_call 106; refine HL.out.mono ?_; rintro e w1 ⟨rfl,rfl⟩))
    go_ret
    exact ⟨by simp [d2],rfl⟩
 | some p =>
   rw [hG] at HG
   clear hG
   go_enter Tryz.func148,Tryz.ntmps148
   go_wp2_with (first
    | (go_at_call 57; refine HG.out.mono ?_; rintro e w1 ⟨rfl,rfl⟩; dsimp only [GotV])
    | (go_at_call 106; refine HL.out.mono ?_; rintro e w1 ⟨rfl,rfl⟩))
   go_ret
   exact ⟨by simp,rfl⟩
theorem room_is (k : ByteArray) {r : Bool} (hr : roomB k W = r) (h : VC w g b sh wt rd rg B S W R G) (hl : W.length ≤ 50000) :
 Calls Tryz.prog 148 #[.pointer (some ⟨g,0,none⟩),.string k] w fun e w' => e = .returned (.bool r) ∧ w = w' := by
 subst hr
 exact room_calls k h hl
theorem set_no (k x : ByteArray) (h : VC w g b sh wt rd rg B S W R G) (hl : W.length ≤ 50000) (hr : roomB k W = false) :
 Calls Tryz.prog 123 #[.pointer (some ⟨g,0,none⟩),.string k,.string x] w fun e w' => e = .returned (.bool false) ∧ w = w' := by
 have HR := hQ_ (room_is k hr h hl)
 clear h hr
 go_enter Tryz.func123,Tryz.ntmps123
 go_wp2_with (go_at_call 148; refine HR.out.mono ?_; rintro e w1 ⟨rfl,rfl⟩)
 go_ret
 exact ⟨rfl,rfl⟩
theorem set_yes (k x : ByteArray) (h : VC w g b sh wt rd rg B S W R G) (hs : S.length ≤ 50000) (hl : W.length ≤ 50000) (hr : roomB k W = true) :
 Calls Tryz.prog 123 #[.pointer (some ⟨g,0,none⟩),.string k,.string x] w fun e w' => ∃ sh' wt',e = .returned (.bool true) ∧ VC w' g b sh' wt' rd rg B (putL k x S) (putL k ⟨#[]⟩ W) R G ∧ Did g rg w w' := by
 have HR := hQ_ (room_is k hr h hl)
 have HS := hQ_ (tnset k x h.shown hs)
 have HV := hQ_ h
 obtain ⟨_,c1,_,_,_,_⟩ := h.cells
 clear h hr
 go_enter Tryz.func123,Tryz.ntmps123
 go_wp2_with (first
  | (go_at_call 148; refine HR.out.mono ?_; rintro e w1 ⟨rfl,rfl⟩)
  | (go_at_call 53; (with_reducible refine HS.out.mono ?_); rintro e w1 ⟨sh',rfl,hsh,hb1⟩; obtain ⟨A1,rfl⟩ := hsh.form; have HV1 := hQ_ (HV.out.below hb1); have HV2 := hQ_ (HV1.out.put1 hsh); have HD := hQ_ (((Did.refl g rg w).below hb1).set HV1.out 1 (.pointer A1)); obtain ⟨k0,k1,k2,k3,k4,k5⟩ := HV1.out.cells; have f1 := k5 1; clear hsh hb1 k5)
  | (go_at_call 53; refine (tnset k ⟨#[]⟩ HV2.out.wr hl).mono ?_; rintro e w2 ⟨wt',rfl,hwt,hb2⟩; obtain ⟨A2,rfl⟩ := hwt.form; have HV3 := hQ_ (HV2.out.below hb2); have HV4 := hQ_ (HV3.out.put2 hwt); have HD2 := hQ_ ((HD.out.below hb2).set HV3.out 2 (.pointer A2)); obtain ⟨m0,m1,m2,m3,m4,m5⟩ := HV3.out.cells; have f2 := m5 2; clear hwt hb2 m5))
 go_ret
 exact ⟨_,_,rfl,HV4.out,HD2.out⟩
theorem cut_no (k : ByteArray) (h : VC w g b sh wt rd rg B S W R G) (hl : W.length ≤ 50000) (hr : roomB k W = false) :
 Calls Tryz.prog 134 #[.pointer (some ⟨g,0,none⟩),.string k] w fun e w' => e = .returned (.bool false) ∧ w = w' := by
 have HR := hQ_ (room_is k hr h hl)
 clear h hr
 go_enter Tryz.func134,Tryz.ntmps134
 go_wp2_with (go_at_call 148; refine HR.out.mono ?_; rintro e w1 ⟨rfl,rfl⟩)
 go_ret
 exact ⟨rfl,rfl⟩
theorem cut_yes (k : ByteArray) (p : Pr) (hB : getL k B = some p) (h : VC w g b sh wt rd rg B S W R G) (hb : B.length ≤ 50000) (hs : S.length ≤ 50000) (hl : W.length ≤ 50000) (hr : roomB k W = true) :
 Calls Tryz.prog 134 #[.pointer (some ⟨g,0,none⟩),.string k] w fun e w' => ∃ sh' wt',e = .returned (.bool true) ∧ VC w' g b sh' wt' rd rg B (cutL k S) (putL k ⟨#[]⟩ W) R G ∧ Did g rg w w' := by
 have HR := hQ_ (room_is k hr h hl)
 have HS := hQ_ (tncut k h.shown hs)
 have HV := hQ_ h
 have HB := hQ_ hB
 obtain ⟨_,c1,_,_,_,_⟩ := h.cells
 clear h hr hB
 go_enter Tryz.func134,Tryz.ntmps134
 go_wp2_with (first
  | (go_at_call 148; refine HR.out.mono ?_; rintro e w1 ⟨rfl,rfl⟩)
  | (go_at_call 151; (with_reducible refine HS.out.mono ?_); rintro e w1 ⟨sh',rfl,hsh,hb1⟩; obtain ⟨A1,rfl⟩ := hsh.form; have HV1 := hQ_ (HV.out.below hb1); have HV2 := hQ_ (HV1.out.put1 hsh); have HD := hQ_ (((Did.refl g rg w).below hb1).set HV1.out 1 (.pointer A1)); obtain ⟨k0,k1,k2,k3,k4,k5⟩ := HV1.out.cells; have f1 := k5 1; have hgb := tnget k HV2.out.base hb; rw [HB.out] at hgb; have HGB := hQ_ hgb; clear hsh hb1 k5 hgb)
  | (go_at_call 57; refine HGB.out.mono ?_; rintro e w3 ⟨rfl,rfl⟩; dsimp only [GotV])
  | (go_at_call 53; refine (tnset k ⟨#[]⟩ HV2.out.wr hl).mono ?_; rintro e w2 ⟨wt',rfl,hwt,hb2⟩; obtain ⟨A2,rfl⟩ := hwt.form; have HV3 := hQ_ (HV2.out.below hb2); have HV4 := hQ_ (HV3.out.put2 hwt); have HD2 := hQ_ ((HD.out.below hb2).set HV3.out 2 (.pointer A2)); obtain ⟨m0,m1,m2,m3,m4,m5⟩ := HV3.out.cells; have f2 := m5 2; clear hwt hb2 m5))
 go_ret
 exact ⟨_,_,rfl,HV4.out,HD2.out⟩
theorem cut_new (k : ByteArray) (hB : getL k B = none) (h : VC w g b sh wt rd rg B S W R G) (hb : B.length ≤ 50000) (hs : S.length ≤ 50000) (hl : W.length ≤ 50000) (hr : roomB k W = true) :
 Calls Tryz.prog 134 #[.pointer (some ⟨g,0,none⟩),.string k] w fun e w' => ∃ sh' wt',e = .returned (.bool true) ∧ VC w' g b sh' wt' rd rg B (cutL k S) (cutL k W) R G ∧ Did g rg w w' := by
 have HR := hQ_ (room_is k hr h hl)
 have HS := hQ_ (tncut k h.shown hs)
 have HV := hQ_ h
 have HB := hQ_ hB
 obtain ⟨_,c1,_,_,_,_⟩ := h.cells
 clear h hr hB
 go_enter Tryz.func134,Tryz.ntmps134
 go_wp2_with (first
  | (go_at_call 148; refine HR.out.mono ?_; rintro e w1 ⟨rfl,rfl⟩)
  | (go_at_call 151; (with_reducible refine HS.out.mono ?_); rintro e w1 ⟨sh',rfl,hsh,hb1⟩; obtain ⟨A1,rfl⟩ := hsh.form; have HV1 := hQ_ (HV.out.below hb1); have HV2 := hQ_ (HV1.out.put1 hsh); have HD := hQ_ (((Did.refl g rg w).below hb1).set HV1.out 1 (.pointer A1)); obtain ⟨k0,k1,k2,k3,k4,k5⟩ := HV1.out.cells; have f1 := k5 1; have hgb := tnget k HV2.out.base hb; rw [HB.out] at hgb; have HGB := hQ_ hgb; clear hsh hb1 k5 hgb)
  | (go_at_call 57; refine HGB.out.mono ?_; rintro e w3 ⟨rfl,rfl⟩; dsimp only [GotV])
  | (go_at_call 151; (with_reducible refine (tncut k HV2.out.wr hl).mono ?_); rintro e w2 ⟨wt',rfl,hwt,hb2⟩; obtain ⟨A2,rfl⟩ := hwt.form; have HV3 := hQ_ (HV2.out.below hb2); have HV4 := hQ_ (HV3.out.put2 hwt); have HD2 := hQ_ ((HD.out.below hb2).set HV3.out 2 (.pointer A2)); obtain ⟨m0,m1,m2,m3,m4,m5⟩ := HV3.out.cells; have f2 := m5 2; clear hwt hb2 m5))
 go_ret
 exact ⟨_,_,rfl,HV4.out,HD2.out⟩
end Go.Proofs.YtfalhnomhidkcaaGreatDoor.ViewKs
namespace Go.Proofs.YtfalhnomhidkcaaGreatDoor.ViewKw
open Go.RowKit
open Byte KeysM TreeM ViewM ViewKm ViewKn ViewKr ViewKs Own Lst Chg TreeR TreeL TreeG TreeH Ho ViewR
variable {w : World} {g : Nat} {b sh wt rd rg : Value} {B S W R : List Pr} {G : List (ByteArray × ByteArray)}
theorem new_view (w : World) (b : Value) (h : TN w b B) : VC (w.alloc (.cells #[b,b,.pointer none,.pointer none,.slice none 0 0] 97)) w.heap.size b b (.pointer none) (.pointer none) (.slice none 0 0) B B [] [] [] := by
 have hb := bN_ w (.cells #[b,b,.pointer none,.pointer none,.slice none 0 0] 97)
 exact ⟨Blk.new_ _ _ _,h.below hb,h.below hb,.inl ⟨rfl,rfl⟩,.inl ⟨rfl,rfl⟩,So.nil_ _ _ _ _⟩
theorem new_calls (b : Value) (w : World) (h : TN w b B) : Calls Tryz.prog 11 #[b] w fun e w' => e = .returned (.pointer (some ⟨w.heap.size,0,none⟩)) ∧ VC w' w.heap.size b b (.pointer none) (.pointer none) (.slice none 0 0) B B [] [] [] ∧ Below w.heap.size w w' := by
 obtain ⟨A,rfl⟩ := h.form
 have HV := hQ_ (new_view w _ h)
 have hb := bN_ w (.cells #[.pointer A,.pointer A,.pointer none,.pointer none,.slice none 0 0] 97)
 have HB := hQ_ hb
 clear h hb
 go_enter Tryz.func11,Tryz.ntmps11
 go_wp2_with fail
 go_ret
 exact ⟨rfl,HV.out,HB.out⟩
def RgTo (w : World) (rg rg' : Value) : Prop := rg'.ownBlock = rg.ownBlock ∨ ∃ k,rg'.ownBlock = some k ∧ w.heap.size ≤ k
def RangeR (g : Nat) (b sh wt rd rg : Value) (B S W R : List Pr) (G : List (ByteArray × ByteArray)) (L : List Pr) (w : World) (e : Ending) (w' : World) : Prop := ∃ v rg',e = .returned v ∧ So prE 46 w' w.heap.size v L.length L ∧ VC w' g b sh wt rd rg' B S W R G ∧ Did g rg w w' ∧ RgTo w rg rg'
theorem range_none (x y : ByteArray) (h : VC w g b sh wt rd rg B S W R G) (hk : kl x y = false) :
 Calls Tryz.prog 23 #[.pointer (some ⟨g,0,none⟩),.string x,.string y] w (RangeR g b sh wt rd rg B S W R G [] w) := by
 have f1 : Op.bytesLess x.toList y.toList = false := hk
 have HV := hQ_ h
 clear h hk
 go_enter Tryz.func23,Tryz.ntmps23
 go_wp2_with fail
 go_ret
 exact ⟨_,rg,rfl,So.nil_ _ _ _ _,HV.out,Did.refl _ _ _,.inl rfl⟩
theorem range_old (x y : ByteArray) (h : VC w g b sh wt rd rg B S W R G) (hs : S.length ≤ 50000) (hg : G.length ≤ 50000) (hk : kl x y = true) (hR : hasR x y G = true) :
 Calls Tryz.prog 23 #[.pointer (some ⟨g,0,none⟩),.string x,.string y] w (RangeR g b sh wt rd rg B S W R G (rangeL x y S) w) := by
 have f1 : Op.bytesLess x.toList y.toList = true := hk
 have HV := hQ_ h
 have HRR := hQ_ hR
 have hb1 := bN_ w (.cells #[.string x,.string y] 117)
 have HB1 := hQ_ hb1
 obtain ⟨W1,hW1⟩ : ∃ W1,w.alloc (.cells #[.string x,.string y] 117) = W1 := ⟨_,rfl⟩
 have HBX := Blk.new_ w #[.string x,.string y] 117
 rw [hW1] at HB1 HBX
 have HV1 := hQ_ (HV.out.below HB1.out)
 obtain ⟨k0,k1,k2,k3,k4,_⟩ := HV1.out.cells
 obtain ⟨x0,x1⟩ := cC2 HBX
 have E1 := hQ_ hW1
 clear h hk hR hb1 hW1 HBX
 obtain ⟨A,c,e,_,_,h0⟩ := Tx.So.head HV.out.rgs
 subst e
 go_enter Tryz.func23,Tryz.ntmps23
 go_upto_region 4 with (fail)
 change Code.wp _ _ _ _ (w.alloc (.cells #[.string x,.string y] 117))
 rw [E1.out]
 have HCT := hQ_ (contains_calls A G.length c G x y W1.drew (So.sl (So.below HV1.out.rgs ((Below.refl _ _).drew))) (by omega))
 rw [HRR.out] at HCT
 have y4 : W1.drew.cell? ⟨g,4,none⟩ = some (.slice A G.length c) := k4
 have y0 : W1.drew.cell? ⟨w.heap.size,0,none⟩ = some (.string x) := x0
 have y1 : W1.drew.cell? ⟨w.heap.size,1,none⟩ = some (.string y) := x1
 go_still_tail 5,(by kernel_rfl)
 change wpList _ _ _ _ _ W1.drew
 go_wp2_with (first
  | (go_at_call 59; refine HCT.out.mono ?_; rintro e w2 ⟨rfl,hb2⟩; have HB2 := hQ_ hb2; have HV2 := hQ_ ((HV1.out.below ((Below.refl _ _).drew)).below hb2); obtain ⟨m0,m1,m2,m3,m4,_⟩ := HV2.out.cells; have HTR := hQ_ (tnrange x y HV2.out.shown hs); clear hb2)
  | (go_at_call 60; refine HTR.out.mono ?_; rintro e w3 ⟨v,rfl,ho,hb3⟩; have HO := hQ_ ho; have HB3 := hQ_ hb3; clear ho hb3))
 go_ret
 have hd : Did g (.slice A G.length c) w w2 := ((((Did.refl g _ w).below HB1.out).below ((Below.refl _ _).drew)).below HB2.out)
 have hz : w.heap.size ≤ w2.heap.size := hd.chg.size
 exact ⟨_,_,rfl,So.lower HO.out hz,HV2.out.below HB3.out,hd.below HB3.out,.inl rfl⟩
theorem VC.app {x y : ByteArray} {w3 : World} {o : Obj} {rg' : Value} (h : VC w g b sh wt rd rg B S W R G) (hg' : (w.alloc o).drew.grownBy w3 rg.ownBlock) (ho : So rgE 117 w3 0 rg' (G.length + 1) (G ++ [(x,y)])) : Blk w3 g #[b,sh,wt,rd,rg] 97 ∧ VC (w3.setCell ⟨g,4,none⟩ rg') g b sh wt rd rg' B S W R (G ++ [(x,y)]) ∧ Did g rg w (w3.setCell ⟨g,4,none⟩ rg') := by
 have hg : (w.alloc o).grownBy w3 rg.ownBlock := ⟨hg'.os,hg'.tape,hg'.output,hg'.size,hg'.block⟩
 have hb : Below w.heap.size w (w.alloc o) := bW_
 have h1 := h.below hb
 have k1 : Kept (w.alloc o) w3 := Kept.of_grown h1.rgs hg (by decide)
 have hblk : Blk w3 g #[b,sh,wt,rd,rg] 97 := h1.rgs.stays hg h1.blk (by decide)
 have k2 : Kept w3 (w3.setCell ⟨g,4,none⟩ rg') := ViewD.kept_set hblk (by decide) 4 rg'
 have k := ViewD.Kept.trans k1 k2
 have ap := So.apart ho hblk (by decide)
 have ho' : So rgE 117 (w3.setCell ⟨g,4,none⟩ rg') 0 rg' (G.length + 1) (G ++ [(x,y)]) := So.chg (S := fun q => q = g) ho ((Chg.refl (fun q => q = g) w3).own 4 rg') (fun q hq e => ap q hq e)
 exact ⟨hblk,⟨hblk.set_ 4 rg',h1.base.keep k,h1.shown.keep k,h1.wr.keep k,h1.read.keep k,by rw [List.length_append]; exact ho'⟩,⟨((Chg.of_below hb).trans (Chg.of_grown (S := own g rg) hg (fun k hk => .inl (.inr hk)))).setCell (.inl (.inl rfl)) _,ViewD.Kept.trans (Kept.of_below hb) k⟩⟩
theorem rg_next {w3 : World} {x y : ByteArray} {gg cap n : Nat} (hn : G.length = n) (h : w3.ownsRow 0 117 2 (.slice (some ⟨gg,0,none⟩) (n + 1) cap) (n + 1) (flat rgE G ++ [.string x,.string y])) : So rgE 117 w3 0 (.slice (some ⟨gg,0,none⟩) (n + 1) cap) (G.length + 1) (G ++ [(x,y)]) := by
 subst hn
 refine ⟨by simp,?_⟩
 rw [flat_append]
 exact h
theorem range_new (x y : ByteArray) (h : VC w g b sh wt rd rg B S W R G) (hs : S.length ≤ 50000) (hg : G.length ≤ 50000) (hk : kl x y = true) (hR : hasR x y G = false) :
 Calls Tryz.prog 23 #[.pointer (some ⟨g,0,none⟩),.string x,.string y] w (RangeR g b sh wt rd rg B S W R (G ++ [(x,y)]) (rangeL x y S) w) := by
 have f1 : Op.bytesLess x.toList y.toList = true := hk
 have HV := hQ_ h
 have HRR := hQ_ hR
 have hb1 := bN_ w (.cells #[.string x,.string y] 117)
 have HB1 := hQ_ hb1
 obtain ⟨W1,hW1⟩ : ∃ W1,w.alloc (.cells #[.string x,.string y] 117) = W1 := ⟨_,rfl⟩
 have HBX := Blk.new_ w #[.string x,.string y] 117
 rw [hW1] at HB1 HBX
 have HV1 := hQ_ (HV.out.below HB1.out)
 obtain ⟨k0,k1,k2,k3,k4,_⟩ := HV1.out.cells
 obtain ⟨x0,x1⟩ := cC2 HBX
 have HX := hQ_ HBX
 have E1 := hQ_ hW1
 clear h hk hR hb1 hW1 HBX
 obtain ⟨A,c,e,_,_,h0⟩ := Tx.So.head HV.out.rgs
 obtain ⟨n,hn⟩ : ∃ n,G.length = n := ⟨_,rfl⟩
 have HN := hQ_ hn
 have E := hQ_ e
 rw [hn] at hg
 rw [e,hn] at k4
 have HCT := hQ_ (contains_calls A n c G x y W1.drew (So.sl (by have := So.below HV1.out.rgs ((Below.refl _ _).drew : Below W1.heap.size W1 W1.drew); rw [e,hn] at this; exact this)) (by omega))
 rw [HRR.out] at HCT
 clear hn e
 go_enter Tryz.func23,Tryz.ntmps23
 go_upto_region 4 with (fail)
 change Code.wp _ _ _ _ (w.alloc (.cells #[.string x,.string y] 117))
 rw [E1.out]
 have y4 : W1.drew.cell? ⟨g,4,none⟩ = some (.slice A n c) := k4
 have y0 : W1.drew.cell? ⟨w.heap.size,0,none⟩ = some (.string x) := x0
 have y1 : W1.drew.cell? ⟨w.heap.size,1,none⟩ = some (.string y) := x1
 go_still_tail 5,(by kernel_rfl)
 change wpList _ _ _ _ _ W1.drew
 go_upto_region 5 with (go_at_call 59; refine HCT.out.mono ?_; rintro e w2 ⟨rfl,hb2⟩; have HB2 := hQ_ hb2; have HV2 := hQ_ ((HV1.out.below ((Below.refl _ _).drew)).below hb2); have HX2 := hQ_ (((HX.out.below ((Below.refl _ _).drew)).below hb2)); clear hb2)
 have m4 : w2.cell? ⟨g,4,none⟩ = some (.slice A n c) := by have h := HV2.out.cells.2.2.2.2.1; rw [E.out,HN.out] at h; exact h
 have m4a : (w2.alloc (.cells #[.string x,.string y] 117)).cell? ⟨g,4,none⟩ = some (.slice A n c) := by rw [World.cell?_alloc_lt _ _ ⟨g,4,none⟩ HV2.out.lt,m4]
 have z0 := cC2 HX2.out
 have HOWN : Hid (w2.ownsRow 0 117 2 (.slice A n c) n (flat rgE G)) := hQ_ (by have h := HV2.out.rgs.2; rw [E.out,HN.out] at h; exact h)
 obtain ⟨i0,hi0,hz0,hz1,hz2⟩ := info_parts info_rg
 go_region_law (first
  | (refine step_append_lies _ (by rfl) _ _ _ (by rfl) 0 117 i0 _ 2 32 Tryz.underlying95 hi0 hz0 hz1 hz2 rfl (by omega) (.slice A n c) n _ (by rfl) ((HOWN.out.alloc _).drew)
      ⟨w2.heap.size,0,none⟩ 1 1 [.string x,.string y] (by rfl) (by rfl) (World.news_of_block (cs := #[.string x,.string y]) (t := 117) (fr := (0,0)) (heap_alloc_new w2 _)) (by simp [Value.oneCell'])
      (by omega) (by unfold maxLen; omega) (by omega) (by simp) (w2.heap.size + 1) (by simp) ?_; intro gg cap w3 hown3 hgrow hat hlt'; have HAP := hQ_ (VC.app HV2.out (by rw [E.out,HN.out]; exact hgrow) (rg_next HN.out hown3)); have HAT := hQ_ hat; have n4 : w3.cell? ⟨g,4,none⟩ = some (.slice A n c) := (by have h := HAP.out.1.cell 4; rw [E.out,HN.out] at h; exact h); have q4 := HAP.out.1.frozen 4; clear hown3 hgrow hat hlt'))
 all_goals
  have HV4 := hQ_ HAP.out.2.1
  obtain ⟨l0,l1,l2,l3,l4,_⟩ := HV4.out.cells
  have HTR := hQ_ (tnrange x y HV4.out.shown hs)
  go_wp2_with (go_at_call 60; refine HTR.out.mono ?_; rintro e w5 ⟨v,rfl,ho,hb5⟩; have HO := hQ_ ho; have HB5 := hQ_ hb5; clear ho hb5)
  go_ret
  have hd : Did g rg w w2 := ((((Did.refl g _ w).below HB1.out).below ((Below.refl _ _).drew)).below HB2.out)
  have hd2 := HAP.out.2.2
  have hd3 : Did g rg w _ := ⟨hd.chg.trans hd2.chg,ViewD.Kept.trans hd.kept hd2.kept⟩
  refine ⟨_,_,rfl,So.lower HO.out hd3.chg.size,HV4.out.below HB5.out,hd3.below HB5.out,?_⟩
  rcases HAT.out with h | h
  ·left
   rw [E.out,HN.out]
   exact h.symm
  ·right
   exact ⟨gg,rfl,by have := hd.chg.size; omega⟩
end Go.Proofs.YtfalhnomhidkcaaGreatDoor.ViewKw
namespace Go.Proofs.YtfalhnomhidkcaaGreatDoor.ViewK
open Go.RowKit
open Byte KeysM TreeM ViewM ViewKm ViewKn ViewKr ViewKs ViewKw Own Lst Chg TreeR TreeL TreeG TreeH Ho ViewR ViewL ViewP
def VRep (w : World) (v : Value) (s : Vs) (S D : Nat → Prop) : Prop := ∃ (g : Nat) (b sh wt rd rg : Value),v = .pointer (some ⟨g,0,none⟩) ∧ VC w g b sh wt rd rg s.base s.shown (kys s.wr) s.rd s.rg ∧ s.Ok ∧ Bare s.wr ∧ S = own g rg ∧ D = own g rg
theorem stays : Stays VRep where
 stay := by
  rintro w w' v s S D T ⟨g,b,sh,wt,rd,rg,rfl,hv,h1,h2,rfl,rfl⟩ hc hT hk
  exact ⟨g,b,sh,wt,rd,rg,rfl,hv.stay hc hk (fun h => hT g h (.inl rfl)) (fun k hk' h => hT k h (.inr hk')),h1,h2,rfl,rfl⟩
 ok := by
  rintro w v s S D ⟨g,b,sh,wt,rd,rg,rfl,hv,h1,h2,rfl,rfl⟩
  exact h1
 lt := by
  rintro w v s S D ⟨g,b,sh,wt,rd,rg,rfl,hv,h1,h2,rfl,rfl⟩ q hq
  rcases hq with rfl | hq
  ·exact hv.lt
  ·exact (hv.rgs.lt hq).2
 sub := by
  rintro w v s S D ⟨g,b,sh,wt,rd,rg,rfl,hv,h1,h2,rfl,rfl⟩ q hq
  exact hq
theorem lens {s : Vs} (h : Lim s) (ho : s.Ok) : s.base.length ≤ 2000 ∧ s.shown.length ≤ 50000 ∧ s.wr.length ≤ 2000 ∧ (kys s.wr).length ≤ 50000 ∧ s.rd.length ≤ 30000 ∧ s.rg.length ≤ 2000 := by
 have h1 := h.base
 have h2 := h.rd
 have h3 := h.rg
 have h4 := ho.lw
 have h5 : s.shown.length ≤ s.base.length + s.wr.length := shown_len s.base s.wr
 refine ⟨by omega,by omega,by omega,by rw [kys_len]; omega,by omega,by omega⟩
theorem room_full (s : Vs) (k x : ByteArray) (gn : Bool) : roomB k (kys s.wr) = !fullW s.wr ⟨k,x,gn⟩ := by
 unfold roomB fullW
 rw [kys_in,kys_len]
 dsimp only
 cases inW k s.wr with
 | true => rfl
 | false =>
   by_cases h : s.wr.length < 48
   ·rw [decide_eq_true h,decide_eq_false (by omega)]
    rfl
   ·rw [decide_eq_false h,decide_eq_true (by omega)]
    rfl
theorem stp {g : Nat} {rg : Value} {w w' : World} (d : Did g rg w w') : Stp (own g rg) (own g rg) (own g rg) (own g rg) w w' := ⟨d.chg,d.kept,Grow.refl _ _,Grow.refl _ _⟩
theorem own_new {w : World} {g : Nat} {rg rg' : Value} (h : RgTo w rg rg') : Grow w (own g rg) (own g rg') := fun b hb => by
 rcases hb with rfl | hb
 ·exact .inl (.inl rfl)
 ·rcases h with h | ⟨k,h1,h2⟩
  ·exact .inl (.inr (by rw [← h]; exact hb))
  ·rw [h1] at hb
   injection hb with hb
   exact .inr (by omega)
theorem sh_of {α : Type} {e : Enc α} {T : TypeId} {w : World} {base : Nat} {v : Value} {L : List α} (h : So e T w base v L.length L) : ∃ r : Sh,v = .slice r.a r.n r.c ∧ Sl e w r.a r.n L ∧ ∀ b o,r.a = some ⟨b,o,none⟩ → base ≤ b := by
 rcases h.form with ⟨rfl,h0⟩ | ⟨g,cap,rfl,h1,_⟩
 ·refine ⟨⟨none,0,0⟩,rfl,?_,fun b o e => by cases e⟩
  have := List.eq_nil_of_length_eq_zero h0
  subst this
  exact Sl.nil_ _ _ _
 ·exact ⟨⟨some ⟨g,0,none⟩,L.length,cap⟩,rfl,So.sl h,fun b o e => by injection e with e; injection e with e; omega⟩
theorem new_ok : NewOk VRep := by
 intro w t L h hr hl
 refine (new_calls t w (TN.of hr)).mono ?_
 rintro e w' ⟨rfl,hv,hb⟩
 have hw : ∀ q,own w.heap.size (.slice none 0 0) q → w.heap.size ≤ q := fun q hq => by
  rcases hq with rfl | hq
  ·exact Nat.le_refl _
  ·cases hq
 exact ⟨_,_,_,rfl,⟨_,_,_,_,_,_,rfl,hv,⟨trise hr,List.Pairwise.nil,List.Pairwise.nil,Nat.zero_le _⟩,Bare.nil,rfl,rfl⟩,hw,hw,hb⟩
theorem get_ok : GetOk VRep := by
 rintro w v s S D k ⟨g,b,sh,wt,rd,rg,rfl,hv,h1,h2,rfl,rfl⟩ hl hk
 obtain ⟨l1,l2,l3,l4,l5,l6⟩ := lens hl h1
 refine (get_calls k hv l2 (by omega)).mono ?_
 rintro e w' ⟨rd',rfl,hv',hd⟩
 exact ⟨_,_,rfl,⟨g,b,sh,wt,rd',rg,rfl,by rw [put_putP] at hv'; exact hv',ok_read h1 k,h2,rfl,rfl⟩,stp hd⟩
theorem range_ok : RangeOk VRep := by
 rintro w v s S D x y ⟨g,b,sh,wt,rd,rg,rfl,hv,h1,h2,rfl,rfl⟩ hl hx hy
 obtain ⟨l1,l2,l3,l4,l5,l6⟩ := lens hl h1
 have key : ∀ (G : List (ByteArray × ByteArray)) (L : List Pr),(s.ranged x y).rg = G → s.rangeOf x y = L → Calls Tryz.prog 23 #[.pointer (some ⟨g,0,none⟩),.string x,.string y] w (RangeR g b sh wt rd rg s.base s.shown (kys s.wr) s.rd G L w) → Calls Tryz.prog 23 #[.pointer (some ⟨g,0,none⟩),.string x,.string y] w fun e w' => ∃ (r : Sh) (S' D' : Nat → Prop),e = .returned (.slice r.a r.n r.c) ∧ Sl prE w' r.a r.n (s.rangeOf x y) ∧ (0 < r.n → NewA w r) ∧ VRep w' (.pointer (some ⟨g,0,none⟩)) (s.ranged x y) S' D' ∧ Stp (own g rg) (own g rg) S' D' w w' := by
  intro G L hG hL hc
  refine hc.mono ?_
  rintro e w' ⟨u,rg',rfl,ho,hv',hd,hto⟩
  obtain ⟨r,rfl,hsl,hnew⟩ := sh_of ho
  refine ⟨r,_,_,rfl,by rw [hL]; exact hsl,fun _ => fun b o e => hnew b o e,⟨g,b,sh,wt,rd,rg',rfl,?_,ok_ranged h1 x y,?_,rfl,rfl⟩,hd.chg,hd.kept,own_new hto,own_new hto⟩
  ·rw [hG]
   have e1 : (s.ranged x y).base = s.base ∧ (s.ranged x y).shown = s.shown ∧ (s.ranged x y).wr = s.wr ∧ (s.ranged x y).rd = s.rd := by
    unfold Vs.ranged
    split <;> exact ⟨rfl,rfl,rfl,rfl⟩
   rw [e1.1,e1.2.1,e1.2.2.1,e1.2.2.2]
   exact hv'
  ·have e1 : (s.ranged x y).wr = s.wr := by
    unfold Vs.ranged
    split <;> rfl
   rw [e1]
   exact h2
 cases hk : kl x y with
 | false =>
   refine key s.rg [] ?_ ?_ (range_none x y hv hk)
   ·unfold Vs.ranged
    rw [hk]
    rfl
   ·unfold Vs.rangeOf
    rw [hk]
    rfl
 | true =>
   cases hh : hasR x y s.rg with
   | true =>
     refine key s.rg (rangeL x y s.shown) ?_ ?_ (range_old x y hv l2 (by omega) hk hh)
     ·unfold Vs.ranged addR
      rw [hk,hh]
      rfl
     ·unfold Vs.rangeOf
      rw [hk]
      rfl
   | false =>
     refine key (s.rg ++ [(x,y)]) (rangeL x y s.shown) ?_ ?_ (range_new x y hv l2 (by omega) hk hh)
     ·unfold Vs.ranged addR
      rw [hk,hh]
      rfl
     ·unfold Vs.rangeOf
      rw [hk]
      rfl
theorem set_ok : SetOk VRep := by
 rintro w v s S D k x ⟨g,b,sh,wt,rd,rg,rfl,hv,h1,h2,rfl,rfl⟩ hl hk hx
 obtain ⟨l1,l2,l3,l4,l5,l6⟩ := lens hl h1
 have hrf := room_full s k x false
 cases hf : fullW s.wr ⟨k,x,false⟩ with
 | true =>
   rw [hf] at hrf
   refine (set_no k x hv l4 hrf).mono ?_
   rintro e w' ⟨rfl,rfl⟩
   have e1 : s.write ⟨k,x,false⟩ = s := by
    unfold Vs.write
    rw [hf]
    rfl
   rw [e1]
   exact ⟨_,_,rfl,⟨g,b,sh,wt,rd,rg,rfl,hv,h1,h2,rfl,rfl⟩,stp (Did.refl _ _ _)⟩
 | false =>
   rw [hf] at hrf
   refine (set_yes k x hv l2 l4 hrf).mono ?_
   rintro e w' ⟨sh',wt',rfl,hv',hd⟩
   have e1 : s.write ⟨k,x,false⟩ = { s with wr := writeW s.base s.wr ⟨k,x,false⟩ } := by
    unfold Vs.write
    rw [hf]
    rfl
   have hok := ok_write h1 ⟨k,x,false⟩
   rw [e1] at hok ⊢
   refine ⟨_,_,rfl,⟨g,b,sh',wt',rd,rg,rfl,?_,hok,h2.write (B := s.base) (p := ⟨k,x,false⟩) (fun h => by cases h),rfl,rfl⟩,stp hd⟩
   have e2 : shownL s.base (writeW s.base s.wr ⟨k,x,false⟩) = putL k x s.shown := shown_write h1.base h1.wr ⟨k,x,false⟩
   have e3 : kys (writeW s.base s.wr ⟨k,x,false⟩) = putL k ⟨#[]⟩ (kys s.wr) := by rw [put_is,kys_put]
   show VC w' g b sh' wt' rd rg s.base (shownL s.base (writeW s.base s.wr ⟨k,x,false⟩)) (kys (writeW s.base s.wr ⟨k,x,false⟩)) s.rd s.rg
   rw [e2,e3]
   exact hv'
theorem cut_ok : CutOk VRep := by
 rintro w v s S D k ⟨g,b,sh,wt,rd,rg,rfl,hv,h1,h2,rfl,rfl⟩ hl hk
 obtain ⟨l1,l2,l3,l4,l5,l6⟩ := lens hl h1
 have hrf := room_full s k ⟨#[]⟩ true
 cases hf : fullW s.wr ⟨k,⟨#[]⟩,true⟩ with
 | true =>
   rw [hf] at hrf
   refine (cut_no k hv l4 hrf).mono ?_
   rintro e w' ⟨rfl,rfl⟩
   have e1 : s.write ⟨k,⟨#[]⟩,true⟩ = s := by
    unfold Vs.write
    rw [hf]
    rfl
   rw [e1]
   exact ⟨_,_,rfl,⟨g,b,sh,wt,rd,rg,rfl,hv,h1,h2,rfl,rfl⟩,stp (Did.refl _ _ _)⟩
 | false =>
   rw [hf] at hrf
   have e1 : s.write ⟨k,⟨#[]⟩,true⟩ = { s with wr := writeW s.base s.wr ⟨k,⟨#[]⟩,true⟩ } := by
    unfold Vs.write
    rw [hf]
    rfl
   have hok := ok_write h1 ⟨k,⟨#[]⟩,true⟩
   have e2 : shownL s.base (writeW s.base s.wr ⟨k,⟨#[]⟩,true⟩) = cutL k s.shown := shown_write h1.base h1.wr ⟨k,⟨#[]⟩,true⟩
   rw [e1] at hok ⊢
   cases hB : getL k s.base with
   | some p =>
     refine (cut_yes k p hB hv (by omega) l2 l4 hrf).mono ?_
     rintro e w' ⟨sh',wt',rfl,hv',hd⟩
     refine ⟨_,_,rfl,⟨g,b,sh',wt',rd,rg,rfl,?_,hok,h2.write (B := s.base) (p := ⟨k,⟨#[]⟩,true⟩) (fun _ => rfl),rfl,rfl⟩,stp hd⟩
     have e3 : kys (writeW s.base s.wr ⟨k,⟨#[]⟩,true⟩) = putL k ⟨#[]⟩ (kys s.wr) := by rw [ViewKm.cut_is,hB]; exact kys_put ⟨k,⟨#[]⟩,true⟩ s.wr
     show VC w' g b sh' wt' rd rg s.base (shownL s.base (writeW s.base s.wr ⟨k,⟨#[]⟩,true⟩)) (kys (writeW s.base s.wr ⟨k,⟨#[]⟩,true⟩)) s.rd s.rg
     rw [e2,e3]
     exact hv'
   | none =>
     refine (cut_new k hB hv (by omega) l2 l4 hrf).mono ?_
     rintro e w' ⟨sh',wt',rfl,hv',hd⟩
     refine ⟨_,_,rfl,⟨g,b,sh',wt',rd,rg,rfl,?_,hok,h2.write (B := s.base) (p := ⟨k,⟨#[]⟩,true⟩) (fun _ => rfl),rfl,rfl⟩,stp hd⟩
     have e3 : kys (writeW s.base s.wr ⟨k,⟨#[]⟩,true⟩) = cutL k (kys s.wr) := by rw [ViewKm.cut_is,hB]; exact kys_cut k s.wr
     show VC w' g b sh' wt' rd rg s.base (shownL s.base (writeW s.base s.wr ⟨k,⟨#[]⟩,true⟩)) (kys (writeW s.base s.wr ⟨k,⟨#[]⟩,true⟩)) s.rd s.rg
     rw [e2,e3]
     exact hv'
end Go.Proofs.YtfalhnomhidkcaaGreatDoor.ViewK
namespace Go.Proofs.YtfalhnomhidkcaaGreatDoor.WalkK
open ViewM ViewL WalkL WalkD WalkE WalkV WalkKa WalkKb
def VRep : RepT := VB ViewK.VRep
theorem small : Small VRep := fun _ _ _ _ _ r => r.2
theorem stays : Stays VRep := stays_b ViewK.stays
theorem shown_len ⦃w : World⦄ ⦃v : Value⦄ ⦃s : Vs⦄ ⦃S D : Nat → Prop⦄ (r : VRep w v s S D) (h : Lim s) : s.shown.length ≤ 100000 := by
 have := (ViewK.lens h (stays.ok r)).2.1
 omega
theorem wks : Wks VRep := ⟨save_ok stays (set_b ViewK.set_ok),drop_ok stays (cut_b ViewK.cut_ok),hang_ok stays (set_b ViewK.set_ok),unhang_ok stays (cut_b ViewK.cut_ok),child_ok stays (get_b ViewK.get_ok) small,list_ok stays (range_b ViewK.range_ok) shown_len⟩
theorem find_ok : FindOk VRep := by
 intro w v s S D path hr hl h2 hn hx
 by_cases hs : (NamesM.spl path).2 = 0
 ·refine (find_yes_calls stays (get_b ViewK.get_ok) small path hr hl h2 hn hx hs (WalkF.findM s.shown path).1 (WalkF.findM s.shown path).2 rfl).mono ?_
  rintro e w' ⟨s',S',D',he,h3,h4,h5⟩
  exact ⟨s',S',D',he,h3,h4,h5⟩
 ·have hf := WalkKm.find_no (L := s.shown) hs
  refine (find_no_calls stays path hr hn hx hs).mono ?_
  rintro e w' ⟨s',S',D',he,h3,h4,h5⟩
  rw [hf]
  exact ⟨s',S',D',he,h3,h4,h5⟩
end Go.Proofs.YtfalhnomhidkcaaGreatDoor.WalkK
namespace Go.Proofs.YtfalhnomhidkcaaGreatDoor.DirsK
open Go.RowKit
open Byte KeysM TreeM ViewM NodeM NamesM NamesL WalkM WalkF WalkKm DirsV Lst Chg TreeL ViewL WalkL WalkV Vat WalkKa WalkKb
open Own hiding keeps
variable {Rep : RepT} {w : World} {v : Value} {s : Vs} {S D : Nat → Prop}
structure Wk (Rep : RepT) : Prop where
 stays : Stays Rep
 get : GetOk Rep
 range : RangeOk Rep
 cut : CutOk Rep
 small : Small Rep
 save : SaveOk Rep
 drop : DropOk Rep
 hang : HangOk Rep
 unhang : UnhangOk Rep
 list : ListOk Rep
 find : WalkE.FindOk Rep
 shown : ∀ ⦃w v s S D⦄,Rep w v s S D → Lim s → s.shown.length ≤ 100000
theorem wk : Wk WalkK.VRep := ⟨WalkK.stays,get_b ViewK.get_ok,range_b ViewK.range_ok,cut_b ViewK.cut_ok,WalkK.small,WalkK.wks.save,WalkK.wks.drop,WalkK.wks.hang,WalkK.wks.unhang,WalkK.wks.list,WalkK.find_ok,WalkK.shown_len⟩
def Wrote (Rep : RepT) (v : Value) (s : Vs) (ps : List Wrt) (k m : Nat) (S D : Nat → Prop) (w : World) (e : Ending) (w' : World) : Prop := ∃ s' S' D',e = .returned (.bool (goW s ps).2) ∧ Rep w' v s' S' D' ∧ Stp S D S' D' w w' ∧ Aft s s' ps k m
theorem lim_aft {s s' : Vs} {ps : List Wrt} {k m : Nat} (h : Aft s s' ps k m) (hl : Lim s) (h1 : s.rd.length + k ≤ 20000) (h2 : s.rg.length + m ≤ 1000) : Lim s' :=
 ⟨by rw [h.sm.base,goW_base]; exact hl.base,Nat.le_trans h.rd h1,Nat.le_trans h.rg h2⟩
theorem wrote_one {v : Value} {s t : Vs} {p : Wrt} {q : Pr} {k : Nat} {S D S' D' : Nat → Prop} {w w' : World} (hq : p s.shown = q) (ht : Sm t s) (h1 : t.rd.length ≤ s.rd.length + k) (h2 : t.rg.length ≤ s.rg.length) (hr : Rep w' v (t.write q) S' D') (st : Stp S D S' D' w w') : Wrote Rep v s [p] k 0 S D w (.returned (.bool (!fullW t.wr q))) w' := by
 subst hq
 have h3 := write_rd t (p s.shown)
 exact ⟨_,S',D',by rw [one_ok,ht.wr],hr,st,Aft.one (ht.write _) (by rw [h3.1]; exact h1) (by rw [h3.2]; exact h2)⟩
theorem tie_calls (hW : Wk Rep) {w : World} {v : Value} {s : Vs} {S D : Nat → Prop} (dir more : Int) (hr : Rep w v s S D) (hl : Lim s) (h2 : s.rd.length ≤ 19990) (h0 : 0 ≤ dir) (h1 : dir ≤ 4294967295) (hm0 : -1 ≤ more) (hm1 : more ≤ 1) :
 Calls Tryz.prog 92 #[v,.int .u32 dir,.int .i64 more] w (Wrote Rep v s [tieP dir more] 1 0 S D w) := by
 have A0 := hQ_ (At.start hr)
 have HLD := hQ_ (load_calls hW.stays hW.get hW.small dir hr hl h0 h1)
 unfold LoadV at HLD
 have HS := hQ_ hW.stays
 have hbd := load_k s.shown dir
 have hl2 : Lim (s.read (kI dir)) := ⟨hl.base,by have := read_len s (kI dir); omega,hl.rg⟩
 have HSV := hQ_ (fun (l : Int) (w1 : World) (S D : Nat → Prop) (hr1 : Rep w1 v (s.read (kI dir)) S D) (b0 : 0 ≤ l) (b1 : l ≤ 4294967295) => hW.save dir (loadM s.shown dir).1.k l (loadM s.shown dir).1.s (loadM s.shown dir).1.p hr1 hl2 h0 h1 ⟨hbd.1,hbd.2.1,b0,b1,hbd.2.2.2.2.1,hbd.2.2.2.2.2.1,hbd.2.2.2.2.2.2.1,hbd.2.2.2.2.2.2.2⟩)
 have HFIN : Hid (∀ l,l = u32 ((loadM s.shown dir).1.l + more) → (tieP dir more s.shown) = ⟨kI dir,nput (loadM s.shown dir).1.k l (loadM s.shown dir).1.s (loadM s.shown dir).1.p,false⟩) := hQ_ (fun l hl => by rw [hl]; rfl)
 have hrl := hQ_ (read_len s (kI dir))
 generalize (loadM s.shown dir).2 = bb at *
 generalize (loadM s.shown dir).1 = xx at *
 obtain ⟨xk,xl,xz,xp⟩ := xx
 dsimp only at HLD HSV HFIN hbd
 obtain ⟨b0,b1,b2,b3,b4,b5,b6,b7⟩ := hbd
 clear hr hl hl2 h2
 go_enter Tryz.func92,Tryz.ntmps92
 go_wp2_with fail
 refine HLD.out.mono ?_
 rintro e w2 ⟨S2,D2,rfl,hr2,st2⟩
 have hbn := bN_ w2 (.cells #[.int .u8 xk,.int .u32 ((xl + more) % 4294967296),.int .u32 xz,.int .u32 xp] 59)
 have A2 := hQ_ ((A0.out.step HS.out hr2 st2).below HS.out hbn)
 clear hr2 st2 hbn
 go_wp2_with fail
 refine (HSV.out ((xl + more) % 4294967296) _ _ _ A2.out.rep (by omega) (by omega)).mono ?_
 rintro e w3 ⟨S3,D3,rfl,hr3,st3⟩
 have A3 := hQ_ (A2.out.step HS.out hr3 st3)
 clear st3 hr3
 go_wp2_with fail
 go_ret
 exact wrote_one (HFIN.out _ rfl) ((Sm.refl s).read _) hrl.out (Nat.le_refl _) A3.out.rep A3.out.st
theorem adopt_calls (hW : Wk Rep) {w : World} {v : Value} {s : Vs} {S D : Nat → Prop} (parent ino : Int) (hr : Rep w v s S D) (hl : Lim s) (h2 : s.rd.length ≤ 19990) (h0 : 0 ≤ ino) (h1 : ino ≤ 4294967295) (p0 : 0 ≤ parent) (p1 : parent ≤ 4294967295) :
 Calls Tryz.prog 122 #[v,.int .u32 parent,.int .u32 ino] w (Wrote Rep v s [adoptP parent ino] 1 0 S D w) := by
 have A0 := hQ_ (At.start hr)
 have HLD := hQ_ (load_calls hW.stays hW.get hW.small ino hr hl h0 h1)
 unfold LoadV at HLD
 have HS := hQ_ hW.stays
 have hbd := load_k s.shown ino
 have hl2 : Lim (s.read (kI ino)) := ⟨hl.base,by have := read_len s (kI ino); omega,hl.rg⟩
 have HSV := hQ_ (fun (w1 : World) (S D : Nat → Prop) (hr1 : Rep w1 v (s.read (kI ino)) S D) => hW.save ino (loadM s.shown ino).1.k (loadM s.shown ino).1.l (loadM s.shown ino).1.s parent hr1 hl2 h0 h1 ⟨hbd.1,hbd.2.1,hbd.2.2.1,hbd.2.2.2.1,hbd.2.2.2.2.1,hbd.2.2.2.2.2.1,p0,p1⟩)
 have HFIN : Hid ((adoptP parent ino s.shown) = ⟨kI ino,nput (loadM s.shown ino).1.k (loadM s.shown ino).1.l (loadM s.shown ino).1.s parent,false⟩) := hQ_ rfl
 have hrl := hQ_ (read_len s (kI ino))
 generalize (loadM s.shown ino).2 = bb at *
 generalize (loadM s.shown ino).1 = xx at *
 obtain ⟨xk,xl,xz,xp⟩ := xx
 dsimp only at HLD HSV HFIN
 clear hr hl hl2 h2 hbd
 go_enter Tryz.func122,Tryz.ntmps122
 go_wp2_with fail
 refine HLD.out.mono ?_
 rintro e w2 ⟨S2,D2,rfl,hr2,st2⟩
 have hbn := bN_ w2 (.cells #[.int .u8 xk,.int .u32 xl,.int .u32 xz,.int .u32 parent] 59)
 have A2 := hQ_ ((A0.out.step HS.out hr2 st2).below HS.out hbn)
 clear hr2 st2 hbn
 go_wp2_with fail
 refine (HSV.out _ _ _ A2.out.rep).mono ?_
 rintro e w3 ⟨S3,D3,rfl,hr3,st3⟩
 have A3 := hQ_ (A2.out.step HS.out hr3 st3)
 clear st3 hr3
 go_wp2_with fail
 go_ret
 exact wrote_one HFIN.out ((Sm.refl s).read _) hrl.out (Nat.le_refl _) A3.out.rep A3.out.st
theorem when_calls (b : Bool) (er : Int) (w : World) : Calls Tryz.prog 72 #[.bool b,.int .i64 er] w fun e w' => e = .returned (.int .i64 (if b then er else 0)) ∧ w = w' := by
 cases b
 all_goals
  go_enter Tryz.func72,Tryz.ntmps72
  go_wp2_with fail
  go_ret
  exact ⟨rfl,rfl⟩
theorem room_calls (b : Bool) (w : World) : Calls Tryz.prog 75 #[.bool b] w fun e w' => e = .returned (.int .i64 (if b then 0 else 21)) ∧ w = w' := by
 have H := hQ_ (fun b w => when_calls b 21 w)
 cases b
 all_goals
  go_enter Tryz.func75,Tryz.ntmps75
  go_wp2_with (go_at_call 72; refine (H.out _ _).mono ?_; rintro e w' ⟨rfl,rfl⟩)
  go_ret
  exact ⟨rfl,rfl⟩
end Go.Proofs.YtfalhnomhidkcaaGreatDoor.DirsK
namespace Go.Proofs.YtfalhnomhidkcaaGreatDoor.DirsKa
open Go.RowKit
open Byte KeysM KeysS KeysV KeysB KeysD TreeM TreeR ViewM NodeM NamesM NamesR NamesL NamesK WalkM WalkF WalkKm DirsV Lst Chg TreeL ViewL WalkL WalkV Vat WalkKa WalkKb DirsK
open Own hiding keeps
variable {Rep : RepT} {w : World} {v : Value} {s : Vs} {S D : Nat → Prop}
def erE : Enc Int := ⟨fun x => [.int .i64 x],1,fun _ => rfl,fun x u hu => by
 rw [List.mem_singleton.1 hu]; rfl,by decide⟩
def fst_ : List Int → Int
 | [] => 0
 | x :: r => if x = 0 then fst_ r else x
theorem er_cell {w : World} {b o k : Nat} {x : Int} (h : w.rangeAt b (o + k * erE.size) (erE.cells x)) : w.cell? ⟨b,o + k,none⟩ = some (.int .i64 x) := by
 have := h 0 _ rfl
 simpa [erE] using this
theorem first_calls (A : Option Addr) (n c : Nat) (L : List Int) (w : World) (hl : Sl erE w A n L) (hn : n ≤ 100) : Calls Tryz.prog 71 #[.slice A n c] w fun e w' => e = .returned (.int .i64 (fst_ L)) ∧ w = w' := by
 have HL := hQ_ hl
 have HLN := hQ_ hl.1
 clear hl
 go_enter Tryz.func71,Tryz.ntmps71
 go_wp2_with fail
 go_loop [7] (fun i => ∃ k : Nat,k ≤ n ∧ i = .int .i64 k ∧ Hid (fst_ (L.drop k) = fst_ L)) (fun i => n - (intOf i).toNat)
 case atStart => exact ⟨0,Nat.zero_le _,rfl,hQ_ rfl⟩
 case round =>
  obtain ⟨k,hk,rfl,HR⟩ := hrel
  by_cases hlt : k < n
  ·obtain ⟨x,g,o,hx,rfl,hg,hcl⟩ := HL.out.get k hlt
   have c1 := er_cell hcl
   have hr := HR.out
   rw [show L.drop k = x :: L.drop (k + 1) by
    obtain ⟨hk,he⟩ := List.getElem?_eq_some_iff.1 hx
    rw [List.drop_eq_getElem_cons hk,he]] at hr
   unfold fst_ at hr
   clear hcl hx
   by_cases h0 : x = 0
   ·rw [if_pos h0] at hr
    have d1 : (x != 0) = false := by simpa using h0
    have HR2 : Hid (fst_ (L.drop (k + 1)) = fst_ L) := hQ_ (by rw [hr]; cases L <;> rfl)
    clear hr HR h0
    go_wp2_with fail
    go_round
    case rel => exact ⟨k + 1,by omega,by go_num,HR2⟩
    case measure => simp [intOf]; omega
   ·rw [if_neg h0] at hr
    have d1 : (x != 0) = true := by simpa using h0
    have HE : Hid (x = fst_ L) := hQ_ (by rw [hr]; cases L <;> rfl)
    clear hr HR h0
    go_wp2_with fail
    go_ret
    exact ⟨by rw [HE.out]; rfl,rfl⟩
  ·have hr := HR.out
   rw [List.drop_eq_nil_of_le (by rw [HLN.out]; omega)] at hr
   have HE : Hid (0 = fst_ L) := hQ_ hr
   clear hr HR
   go_wp2_with fail
   go_ret
   exact ⟨by rw [HE.out]; rfl,rfl⟩
theorem first_2 (a b : Int) (w : World) : Calls Tryz.prog 71 #[.slice (some ⟨w.heap.size,0,none⟩) 2 2] (w.alloc (.cells #[.int .i64 a,.int .i64 b] 66)) fun e w' => e = .returned (.int .i64 (fst_ [a,b])) ∧ (w.alloc (.cells #[.int .i64 a,.int .i64 b] 66)) = w' :=
 first_calls _ 2 2 [a,b] _ (So.lit erE 66 w (base := w.heap.size) [a,b] #[.int .i64 a,.int .i64 b] 2 rfl rfl (Nat.le_refl _) (by decide)).sl (by decide)
theorem first_3 (a b c : Int) (w : World) : Calls Tryz.prog 71 #[.slice (some ⟨w.heap.size,0,none⟩) 3 3] (w.alloc (.cells #[.int .i64 a,.int .i64 b,.int .i64 c] 66)) fun e w' => e = .returned (.int .i64 (fst_ [a,b,c])) ∧ (w.alloc (.cells #[.int .i64 a,.int .i64 b,.int .i64 c] 66)) = w' :=
 first_calls _ 3 3 [a,b,c] _ (So.lit erE 66 w (base := w.heap.size) [a,b,c] #[.int .i64 a,.int .i64 b,.int .i64 c] 3 rfl rfl (Nat.le_refl _) (by decide)).sl (by decide)
theorem within_calls (old path : ByteArray) (w : World) (h1 : old.size ≤ 100000) (h2 : path.size ≤ 100000) (hx : Mx w) : Calls Tryz.prog 73 #[.string old,.string path] w fun e w' => e = .returned (.bool (under (spl old).1 (spl path).1)) ∧ Below w.heap.size w w' := by
 have HA := hQ_ (split_ok old w h1 hx)
 have HB := hQ_ (fun w (h : Mx w) => split_ok path w h2 h)
 unfold SplE at HA HB
 have hsa := (spl_small old).1
 have hsb := (spl_small path).1
 have HX := hQ_ hx
 generalize (spl old).1 = L at *
 generalize (spl path).1 = M at *
 generalize (spl old).2 = ea at *
 generalize (spl path).2 = eb at *
 clear hx
 go_enter Tryz.func73,Tryz.ntmps73
 go_wp2_with fail
 refine HA.out.mono ?_
 rintro e w1 ⟨A,m,c,rfl,hso,hb1⟩
 have HL1 := hQ_ hso.sl
 have HB1 := hQ_ hb1
 have HR1 := hQ_ (room_of hso)
 have hm16 : m ≤ 16 := by rw [← hso.1]; exact hsa
 clear hso hb1 hsa
 go_wp2_with fail
 refine (HB.out _ (HX.out.below HB1.out)).mono ?_
 rintro e w2 ⟨A2,m2,c2,rfl,hso,hb2⟩
 have HL := hQ_ (HL1.out.below hb2)
 have HL2 := hQ_ hso.sl
 have HB2 := hQ_ (Own.keeps HB1.out hb2)
 have HR2 := hQ_ (room_of hso)
 have hm216 : m2 ≤ 16 := by rw [← hso.1]; exact hsb
 clear hso hb2 hsb
 go_wp2_with fail
 refine (under_ok A A2 m c m2 c2 L M w2 HL.out HL2.out HR1.out HR2.out (by omega) (by omega)).mono ?_
 rintro e w3 ⟨rfl,hb3⟩
 have HB3 := hQ_ (Own.keeps HB2.out hb3)
 clear hb3
 go_wp2_with fail
 go_ret
 exact ⟨rfl,HB3.out⟩
theorem save_w (hW : Wk Rep) (ino k l z p : Int) (hr : Rep w v s S D) (hl : Lim s) (h0 : 0 ≤ ino) (h1 : ino ≤ 4294967295) (hb : InoB k l z p) : Calls Tryz.prog 79 #[v,.int .u32 ino,.agg #[.int .u8 k,.int .u32 l,.int .u32 z,.int .u32 p]] w (Wrote Rep v s [saveP ino k l z p] 0 0 S D w) :=
 (hW.save ino k l z p hr hl h0 h1 hb).mono fun e w' ⟨S',D',he,h,st⟩ => by subst he; exact wrote_one (p := saveP ino k l z p) rfl (Sm.refl s) (Nat.le_refl _) (Nat.le_refl _) h st
theorem drop_w (hW : Wk Rep) (ino : Int) (hr : Rep w v s S D) (hl : Lim s) (h0 : 0 ≤ ino) (h1 : ino ≤ 4294967295) : Calls Tryz.prog 127 #[v,.int .u32 ino] w (Wrote Rep v s [dropP ino] 0 0 S D w) :=
 (hW.drop ino hr hl h0 h1).mono fun e w' ⟨S',D',he,h,st⟩ => by subst he; exact wrote_one (p := dropP ino) rfl (Sm.refl s) (Nat.le_refl _) (Nat.le_refl _) h st
theorem hang_w (hW : Wk Rep) (dir : Int) (name : ByteArray) (ino : Int) (hr : Rep w v s S D) (hl : Lim s) (h0 : 0 ≤ dir) (h1 : dir ≤ 4294967295) (i0 : 0 ≤ ino) (i1 : ino ≤ 4294967295) (hn : name.size ≤ 100000) : Calls Tryz.prog 78 #[v,.int .u32 dir,.string name,.int .u32 ino] w (Wrote Rep v s [hangP dir name ino] 0 0 S D w) :=
 (hW.hang dir name ino hr hl h0 h1 i0 i1 hn).mono fun e w' ⟨S',D',he,h,st⟩ => by subst he; exact wrote_one (p := hangP dir name ino) rfl (Sm.refl s) (Nat.le_refl _) (Nat.le_refl _) h st
theorem unhang_w (hW : Wk Rep) (dir : Int) (name : ByteArray) (hr : Rep w v s S D) (hl : Lim s) (h0 : 0 ≤ dir) (h1 : dir ≤ 4294967295) (hn : name.size ≤ 100000) : Calls Tryz.prog 121 #[v,.int .u32 dir,.string name] w (Wrote Rep v s [unhangP dir name] 0 0 S D w) :=
 (hW.unhang dir name hr hl h0 h1 hn).mono fun e w' ⟨S',D',he,h,st⟩ => by subst he; exact wrote_one (p := unhangP dir name) rfl (Sm.refl s) (Nat.le_refl _) (Nat.le_refl _) h st
theorem Wrote.split {v : Value} {s : Vs} {ps : List Wrt} {k m : Nat} {S D : Nat → Prop} {w : World} {e : Ending} {w' : World} (h : Wrote Rep v s ps k m S D w e w') :
 (∃ s' S' D',e = .returned (.bool true) ∧ (goW s ps).2 = true ∧ Rep w' v s' S' D' ∧ Stp S D S' D' w w' ∧ Aft s s' ps k m) ∨ (∃ s' S' D',e = .returned (.bool false) ∧ (goW s ps).2 = false ∧ Rep w' v s' S' D' ∧ Stp S D S' D' w w' ∧ Aft s s' ps k m) := by
 obtain ⟨s',S',D',he,hr,st,ha⟩ := h
 cases ho : (goW s ps).2 with
 | true => rw [ho] at he; exact .inl ⟨s',S',D',he,rfl,hr,st,ha⟩
 | false => rw [ho] at he; exact .inr ⟨s',S',D',he,rfl,hr,st,ha⟩
def Ans (Rep : RepT) (v : Value) (s : Vs) (er : Int) (ps : List Wrt) (k m : Nat) (S D : Nat → Prop) (w : World) (e : Ending) (w' : World) : Prop := ∃ s' S' D',e = .returned (.int .i64 (if (goW s ps).2 = true then er else 21)) ∧ Rep w' v s' S' D' ∧ Stp S D S' D' w w' ∧ Aft s s' ps k m
theorem Ans.ok {v : Value} {s s' : Vs} {er : Int} {ps : List Wrt} {k m : Nat} {S D M S' D' : Nat → Prop} {w w' : World} (A : At Rep w S D M w' v s' S' D') (h : Aft s s' ps k m ∧ (goW s ps).2 = true) : Ans Rep v s er ps k m S D w (.returned (.int .i64 er)) w' := ⟨s',S',D',by rw [h.2]; rfl,A.rep,A.st,h.1⟩
theorem Ans.full {v : Value} {s s' : Vs} {er : Int} {ps : List Wrt} {k m : Nat} {S D M S' D' : Nat → Prop} {w w' : World} (A : At Rep w S D M w' v s' S' D') (h : Aft s s' ps k m ∧ (goW s ps).2 = false) : Ans Rep v s er ps k m S D w (.returned (.int .i64 21)) w' := ⟨s',S',D',by rw [h.2]; rfl,A.rep,A.st,h.1⟩
theorem Ans.split {v : Value} {s : Vs} {er : Int} {ps : List Wrt} {k m : Nat} {S D : Nat → Prop} {w : World} {e : Ending} {w' : World} (h : Ans Rep v s er ps k m S D w e w') :
 (∃ s' S' D',e = .returned (.int .i64 er) ∧ (goW s ps).2 = true ∧ Rep w' v s' S' D' ∧ Stp S D S' D' w w' ∧ Aft s s' ps k m) ∨ (∃ s' S' D',e = .returned (.int .i64 21) ∧ (goW s ps).2 = false ∧ Rep w' v s' S' D' ∧ Stp S D S' D' w w' ∧ Aft s s' ps k m) := by
 obtain ⟨s',S',D',he,hr,st,ha⟩ := h
 cases ho : (goW s ps).2 with
 | true => rw [ho] at he; exact .inl ⟨s',S',D',he,rfl,hr,st,ha⟩
 | false => rw [ho] at he; exact .inr ⟨s',S',D',he,rfl,hr,st,ha⟩
def blkB (ino : Int) (p : Pr) : Bool := decide ((sp p.key).letter = 68) && decide ((sp p.key).ino = ino) && decide (0 ≤ (sp p.key).n)
theorem empty_none (hW : Wk Rep) (ino : Int) (hr : Rep w v s S D) (hl : Lim s) (hg : s.rg.length ≤ 999) (h0 : 0 ≤ ino) (h1 : ino ≤ 4294967295) (hk : ∀ p ∈ s.shown,(sp p.key).letter ≠ 0) (hb : ∀ p ∈ s.shown,blkB ino p = false) :
 Calls Tryz.prog 126 #[v,.int .u32 ino] w (Wrote Rep v s [] 0 1 S D w) := by
 have A0 := hQ_ (At.start hr)
 have HE := hQ_ (fun w => blocks_small ino 0 w h0 h1 (by omega) (by omega))
 have HK := hQ_ hk
 have HS := hQ_ hW.stays
 have HL := hQ_ hl
 have HX := hQ_ hW.range
 have HB := hQ_ hb
 clear hr hl hk hb hg hW
 go_enter Tryz.func126,Tryz.ntmps126
 go_wp2_with fail
 refine (HE.out _).mono ?_
 rintro e w1 ⟨a,b,rfl,hrg,ha,hb,hb1⟩
 have A1 := hQ_ (A0.out.below HS.out hb1)
 have HRG : Hid (rangeL a b s.shown = []) := hQ_ (by
  rw [range_ent hrg.out HK.out]
  exact List.filter_eq_nil_iff.2 (fun p hp => by have := HB.out p hp; unfold blkB at this; rw [this]; decide))
 clear hb1 hrg
 go_wp2_with fail
 refine (HX.out a b A1.out.rep HL.out (by omega) (by omega)).mono ?_
 rintro e w2 ⟨⟨ra,rn,rc⟩,S2,D2,rfl,hsl,hnew,hr2,st2⟩
 rw [rangeOf_is,HRG.out] at hsl
 dsimp only at hsl hnew
 have A2 := hQ_ (A1.out.step HS.out hr2 st2)
 have hrn : 0 = rn := hsl.1
 subst hrn
 have HAF : Hid (Aft s (s.ranged a b) [] 0 1) := hQ_ (Aft.nil ((Sm.refl s).ranged a b) (by unfold Vs.ranged; split <;> exact Nat.le_refl _) (by
  unfold Vs.ranged
  split
  ·show (addR a b s.rg).length ≤ _
   unfold addR
   split
   ·omega
   ·simp
  ·omega))
 clear hsl hnew hr2 st2 ha hb
 go_wp2_with fail
 go_loopw [18] (fun i wr => i = .int .i64 0 ∧ wr = w2) (fun i _ => 0)
 case atStart => exact ⟨rfl,rfl⟩
 case round =>
  obtain ⟨rfl,rfl⟩ := hrel
  go_wp2_with fail
  go_ret
  exact ⟨_,S2,D2,rfl,A2.out.rep,A2.out.st,HAF.out⟩
end Go.Proofs.YtfalhnomhidkcaaGreatDoor.DirsKa
namespace Go.Proofs.YtfalhnomhidkcaaGreatDoor.DirsKb
open Go.RowKit
open Byte KeysM TreeM ViewM ViewKm NodeM NamesM NamesL WalkM WalkF WalkKm DirsV Lst Chg TreeL ViewL WalkL WalkV Vat WalkKa WalkKb DirsK DirsKa
open Own hiding keeps
variable {Rep : RepT} {w : World} {v : Value} {s : Vs} {S D : Nat → Prop}
theorem ranged_rd (s : Vs) (a b : ByteArray) : (s.ranged a b).rd.length = s.rd.length := by
 unfold Vs.ranged
 split <;> rfl
theorem ranged_rg (s : Vs) (a b : ByteArray) : (s.ranged a b).rg.length ≤ s.rg.length + 1 := by
 unfold Vs.ranged
 split
 ·show (addR a b s.rg).length ≤ _
  unfold addR
  split
  ·omega
  ·simp
 ·omega
theorem Wrote.of_ok {v : Value} {s s' : Vs} {ps : List Wrt} {k m : Nat} {S D M S' D' : Nat → Prop} {w w' : World} (A : At Rep w S D M w' v s' S' D') (h : Aft s s' ps k m ∧ (goW s ps).2 = true) : Wrote Rep v s ps k m S D w (.returned (.bool true)) w' := ⟨s',S',D',by rw [h.2],A.rep,A.st,h.1⟩
theorem Wrote.of_bad {v : Value} {s s' : Vs} {ps : List Wrt} {k m : Nat} {S D M S' D' : Nat → Prop} {w w' : World} (A : At Rep w S D M w' v s' S' D') (h : Aft s s' ps k m ∧ (goW s ps).2 = false) : Wrote Rep v s ps k m S D w (.returned (.bool false)) w' := ⟨s',S',D',by rw [h.2],A.rep,A.st,h.1⟩
theorem cut_sub {s : Vs} (ho : s.Ok) (k : ByteArray) : ∀ p ∈ (s.write ⟨k,⟨#[]⟩,true⟩).shown,p ∈ s.shown := fun p hp => by
 unfold Vs.write at hp
 split at hp
 ·exact hp
 ·have h1 : p ∈ shownL s.base (writeW s.base s.wr ⟨k,⟨#[]⟩,true⟩) := hp
  rw [shown_write ho.base ho.wr,mem_done] at h1
  rcases h1 with ⟨h2,_⟩ | ⟨h2,_⟩
  ·cases h2
  ·exact h2
theorem unh_sm {s s' : Vs} {d : Int} {n : ByteArray} {k m : Nat} (h : Aft s s' ([] ++ [unhangP d n]) k m) : s'.shown = (s.write ⟨kE d n,⟨#[]⟩,true⟩).shown := by
 rw [h.sm.shown,List.nil_append]
 unfold goW
 split
 ·rename_i hf
  rw [write_room (p := ⟨kE d n,⟨#[]⟩,true⟩) hf]
 ·rfl
theorem remove_calls (hW0 : Wk Rep) (xd xi xk xl xz xp : Int) (xn : ByteArray) (hr : Rep w v s S D) (hl : Lim s) (h2 : s.rd.length ≤ 19900) (h3 : s.rg.length ≤ 990) (hd0 : 0 ≤ xd) (hd1 : xd ≤ 4294967295) (hi0 : 0 ≤ xi) (hi1 : xi ≤ 4294967295) (hn0 : xn.size ≤ 100000) (hk : ∀ p ∈ s.shown,(sp p.key).letter ≠ 0) :
 Calls Tryz.prog 97 #[v,.agg #[.int .u32 xd,.string xn,.int .u32 xi,.int .u8 xk,.int .u32 xl,.int .u32 xz,.int .u32 xp]] w (Ans Rep v s (remV s.shown ⟨xd,xn,xi,⟨xk,xl,xz,xp⟩⟩).1 (remV s.shown ⟨xd,xn,xi,⟨xk,xl,xz,xp⟩⟩).2 1 1 S D w) := by
 obtain ⟨W,hW⟩ : ∃ W,w.alloc (.cells #[.int .u32 xd,.string xn,.int .u32 xi,.int .u8 xk,.int .u32 xl,.int .u32 xz,.int .u32 xp] 65) = W := ⟨_,rfl⟩
 have hbW : Below w.heap.size w W := by rw [← hW]; exact bW_
 have A0 := hQ_ ((At.start hr).own hW0.stays hbW (Nat.le_refl w.heap.size) (by rw [← hW]; simp))
 have X0 := hQ_ (show Blk W w.heap.size #[.int .u32 xd,.string xn,.int .u32 xi,.int .u8 xk,.int .u32 xl,.int .u32 xz,.int .u32 xp] 65 from hW ▸ Blk.new_ w _ _)
 have HW := hQ_ hW
 have HS := hQ_ hW0.stays
 have HWK := hQ_ hW0
 have HL := hQ_ hl
 have HRO := hQ_ room_calls
 have C0 := hQ_ (aft0 s)
 have HLS := hQ_ (fun w (S D : Nat → Prop) (hr : Rep w v s S D) => hW0.list xi hr hl hi0 hi1 hk)
 have HV : Hid (remV s.shown ⟨xd,xn,xi,⟨xk,xl,xz,xp⟩⟩ = if xk ≠ 2 then (12,[]) else if (listM xi s.shown).length ≠ 0 then (14,[]) else (0,[unhangP xd xn,dropP xi,tieP xd (-1)])) := hQ_ rfl
 rw [HV.out]
 clear hr hl hk hW hbW HV
 have f0_X0 := cC7 X0.out
 by_cases hk : xk = 2
 ·rw [if_neg (fun h => h hk)]
  have d1 : (xk != 2) = false := by simpa using hk
  clear hk
  by_cases hl : (listM xi s.shown).length = 0
  ·rw [if_neg (fun h => h hl)]
   dsimp only
   go_enter Tryz.func97,Tryz.ntmps97
   go_wp2_with fail
   rw [HW.out]
   go_wp2_with fail
   refine (HLS.out _ _ _ A0.out.rep).mono ?_
   rintro e w1 ⟨ra,rm,rc,a,b,S1,D1,rfl,hsl,hr,st⟩
   have hz := hsl.1
   have C1 : Hid (Aft s (s.ranged a b) [] 0 1 ∧ (goW s []).2 = true) := hQ_ ⟨Aft.nil ((Sm.refl s).ranged a b) (Nat.le_of_eq (ranged_rd s a b)) (ranged_rg s a b),rfl⟩
   have A1 := hQ_ (A0.out.step HS.out hr st)
   have X1 := hQ_ (A0.out.blk HS.out X0.out (.inr rfl) st)
   have f1_X0 := cC7 X1.out
   clear st hr f0_X0
   have q1 : decide ((0 : Int) < (rm : Int)) = false := by simp; omega
   have q2 : decide (0 < rm) = false := by simp; omega
   clear hsl hz hl
   go_wp2_with fail
   refine (unhang_w HWK.out xd xn A1.out.rep (lim_aft C1.out.1 HL.out (by omega) (by omega)) (by omega) (by omega) (by omega)).mono ?_
   intro e w2 hh
   rcases Wrote.split hh with ⟨s2,S2,D2,rfl,ho,hr,st,ha⟩ | ⟨s2,S2,D2,rfl,ho,hr,st,ha⟩
   ·obtain ⟨x1,x2⟩ := C1.out.1.app C1.out.2 ha
    have C2 := hQ_ (And.intro x1 (x2.trans ho))
    clear x1 x2 ho ha
    have A2 := hQ_ (A1.out.step HS.out hr st)
    have X2 := hQ_ (A1.out.blk HS.out X1.out (.inr rfl) st)
    obtain ⟨f2_X0,f2_X1,f2_X2,f2_X3,f2_X4,f2_X5,f2_X6⟩ := cC7 X2.out
    clear st hr f1_X0
    go_wp2_with fail
    refine (drop_w HWK.out xi A2.out.rep (lim_aft C2.out.1 HL.out (by omega) (by omega)) (by omega) (by omega)).mono ?_
    intro e w3 hh
    rcases Wrote.split hh with ⟨s3,S3,D3,rfl,ho,hr,st,ha⟩ | ⟨s3,S3,D3,rfl,ho,hr,st,ha⟩
    ·obtain ⟨x1,x2⟩ := C2.out.1.app C2.out.2 ha
     have C3 := hQ_ (And.intro x1 (x2.trans ho))
     clear x1 x2 ho ha
     have A3 := hQ_ (A2.out.step HS.out hr st)
     have X3 := hQ_ (A2.out.blk HS.out X2.out (.inr rfl) st)
     obtain ⟨f3_X0,f3_X1,f3_X2,f3_X3,f3_X4,f3_X5,f3_X6⟩ := cC7 X3.out
     clear st hr f2_X0 f2_X1 f2_X2 f2_X3 f2_X4 f2_X5 f2_X6
     go_wp2_with fail
     refine (tie_calls HWK.out xd (-1) A3.out.rep (lim_aft C3.out.1 HL.out (by omega) (by omega)) (by have := C3.out.1.rd; omega) (by omega) (by omega) (by omega) (by omega)).mono ?_
     intro e w4 hh
     rcases Wrote.split hh with ⟨s4,S4,D4,rfl,ho,hr,st,ha⟩ | ⟨s4,S4,D4,rfl,ho,hr,st,ha⟩
     ·obtain ⟨x1,x2⟩ := C3.out.1.app C3.out.2 ha
      have C4 := hQ_ (And.intro x1 (x2.trans ho))
      clear x1 x2 ho ha
      have A4 := hQ_ (A3.out.step HS.out hr st)
      have X4 := hQ_ (A3.out.blk HS.out X3.out (.inr rfl) st)
      obtain ⟨f4_X0,f4_X1,f4_X2,f4_X3,f4_X4,f4_X5,f4_X6⟩ := cC7 X4.out
      clear st hr f3_X0 f3_X1 f3_X2 f3_X3 f3_X4 f3_X5 f3_X6
      go_wp2_with (go_at_call 75; refine (HRO.out _ _).mono ?_; rintro e w9 ⟨rfl,rfl⟩)
      go_ret
      exact Ans.ok A4.out ⟨C4.out.1.more (by omega) (by omega),C4.out.2⟩
     ·obtain ⟨x1,x2⟩ := C3.out.1.app C3.out.2 ha
      have C4 := hQ_ (And.intro x1 (x2.trans ho))
      clear x1 x2 ho ha
      have A4 := hQ_ (A3.out.step HS.out hr st)
      have X4 := hQ_ (A3.out.blk HS.out X3.out (.inr rfl) st)
      obtain ⟨f4_X0,f4_X1,f4_X2,f4_X3,f4_X4,f4_X5,f4_X6⟩ := cC7 X4.out
      clear st hr f3_X0 f3_X1 f3_X2 f3_X3 f3_X4 f3_X5 f3_X6
      go_wp2_with (go_at_call 75; refine (HRO.out _ _).mono ?_; rintro e w9 ⟨rfl,rfl⟩)
      go_ret
      exact Ans.full A4.out ⟨(Aft.stop (qs := []) C4.out.1 C4.out.2).1.more (by omega) (by omega),(Aft.stop (qs := []) C4.out.1 C4.out.2).2⟩
    ·obtain ⟨x1,x2⟩ := C2.out.1.app C2.out.2 ha
     have C3 := hQ_ (And.intro x1 (x2.trans ho))
     clear x1 x2 ho ha
     have A3 := hQ_ (A2.out.step HS.out hr st)
     have X3 := hQ_ (A2.out.blk HS.out X2.out (.inr rfl) st)
     obtain ⟨f3_X0,f3_X1,f3_X2,f3_X3,f3_X4,f3_X5,f3_X6⟩ := cC7 X3.out
     clear st hr f2_X0 f2_X1 f2_X2 f2_X3 f2_X4 f2_X5 f2_X6
     go_wp2_with (go_at_call 75; refine (HRO.out _ _).mono ?_; rintro e w9 ⟨rfl,rfl⟩)
     go_ret
     exact Ans.full A3.out ⟨(Aft.stop (qs := [tieP xd (-1)]) C3.out.1 C3.out.2).1.more (by omega) (by omega),(Aft.stop (qs := [tieP xd (-1)]) C3.out.1 C3.out.2).2⟩
   ·obtain ⟨x1,x2⟩ := C1.out.1.app C1.out.2 ha
    have C2 := hQ_ (And.intro x1 (x2.trans ho))
    clear x1 x2 ho ha
    have A2 := hQ_ (A1.out.step HS.out hr st)
    have X2 := hQ_ (A1.out.blk HS.out X1.out (.inr rfl) st)
    obtain ⟨f2_X0,f2_X1,f2_X2,f2_X3,f2_X4,f2_X5,f2_X6⟩ := cC7 X2.out
    clear st hr f1_X0
    go_wp2_with (go_at_call 75; refine (HRO.out _ _).mono ?_; rintro e w9 ⟨rfl,rfl⟩)
    go_ret
    exact Ans.full A2.out ⟨(Aft.stop (qs := [dropP xi,tieP xd (-1)]) C2.out.1 C2.out.2).1.more (by omega) (by omega),(Aft.stop (qs := [dropP xi,tieP xd (-1)]) C2.out.1 C2.out.2).2⟩
  ·rw [if_pos hl]
   dsimp only
   go_enter Tryz.func97,Tryz.ntmps97
   go_wp2_with fail
   rw [HW.out]
   go_wp2_with fail
   refine (HLS.out _ _ _ A0.out.rep).mono ?_
   rintro e w5 ⟨ra,rm,rc,a,b,S5,D5,rfl,hsl,hr,st⟩
   have hz := hsl.1
   have C5 : Hid (Aft s (s.ranged a b) [] 0 1 ∧ (goW s []).2 = true) := hQ_ ⟨Aft.nil ((Sm.refl s).ranged a b) (Nat.le_of_eq (ranged_rd s a b)) (ranged_rg s a b),rfl⟩
   have A5 := hQ_ (A0.out.step HS.out hr st)
   have X5 := hQ_ (A0.out.blk HS.out X0.out (.inr rfl) st)
   have f5_X0 := cC7 X5.out
   clear st hr f0_X0
   have q1 : decide ((0 : Int) < (rm : Int)) = true := by simp; omega
   have q2 : decide (0 < rm) = true := by simp; omega
   clear hsl hz hl
   go_wp2_with fail
   go_ret
   exact Ans.ok A5.out ⟨C5.out.1.more (by omega) (by omega),C5.out.2⟩
 ·rw [if_pos hk]
  have d1 : (xk != 2) = true := by simpa using hk
  clear hk
  dsimp only
  go_enter Tryz.func97,Tryz.ntmps97
  go_wp2_with fail
  rw [HW.out]
  go_wp2_with fail
  go_ret
  exact Ans.ok A0.out ⟨C0.out.1.more (by omega) (by omega),C0.out.2⟩
theorem move_far (hW0 : Wk Rep) (xd xi xk xl xz xp : Int) (xn : ByteArray) (yd yi yk yl yz yp : Int) (yn : ByteArray) (hr : Rep w v s S D) (hl : Lim s) (h2 : s.rd.length ≤ 19900) (h3 : s.rg.length ≤ 990) (hd0 : 0 ≤ xd) (hd1 : xd ≤ 4294967295) (hi0 : 0 ≤ xi) (hi1 : xi ≤ 4294967295) (hn0 : xn.size ≤ 100000) (jd0 : 0 ≤ yd) (jd1 : yd ≤ 4294967295) (ji0 : 0 ≤ yi) (ji1 : yi ≤ 4294967295) (jn0 : yn.size ≤ 100000) (hk : xk = 2) (hne : xd ≠ yd) :
 Calls Tryz.prog 76 #[v,.agg #[.int .u32 xd,.string xn,.int .u32 xi,.int .u8 xk,.int .u32 xl,.int .u32 xz,.int .u32 xp],.agg #[.int .u32 yd,.string yn,.int .u32 yi,.int .u8 yk,.int .u32 yl,.int .u32 yz,.int .u32 yp]] w (Wrote Rep v s [unhangP xd xn,hangP yd yn xi,adoptP yd xi,tieP xd (-1),tieP yd 1] 3 0 S D w) := by
 obtain ⟨W,hW⟩ : ∃ W,(w.alloc (.cells #[.int .u32 xd,.string xn,.int .u32 xi,.int .u8 xk,.int .u32 xl,.int .u32 xz,.int .u32 xp] 65)).alloc (.cells #[.int .u32 yd,.string yn,.int .u32 yi,.int .u8 yk,.int .u32 yl,.int .u32 yz,.int .u32 yp] 65) = W := ⟨_,rfl⟩
 have hb1 := bN_ w (.cells #[.int .u32 xd,.string xn,.int .u32 xi,.int .u8 xk,.int .u32 xl,.int .u32 xz,.int .u32 xp] 65)
 have A0 : Hid (At Rep w S D (fun b => (False ∨ b = w.heap.size) ∨ b = w.heap.size + 1) W v s S D) := hQ_ (by
  rw [← hW]
  exact ((At.start hr).own hW0.stays hb1 (Nat.le_refl w.heap.size) (by simp)).own hW0.stays (bW_) (by simp) (by simp))
 have X0 := hQ_ (show Blk W w.heap.size #[.int .u32 xd,.string xn,.int .u32 xi,.int .u8 xk,.int .u32 xl,.int .u32 xz,.int .u32 xp] 65 from hW ▸ (Blk.new_ w _ _).alloc _)
 have Y0 : Hid (Blk W (w.heap.size + 1) #[.int .u32 yd,.string yn,.int .u32 yi,.int .u8 yk,.int .u32 yl,.int .u32 yz,.int .u32 yp] 65) := hQ_ (by
  rw [← hW]
  have := Blk.new_ (w.alloc (.cells #[.int .u32 xd,.string xn,.int .u32 xi,.int .u8 xk,.int .u32 xl,.int .u32 xz,.int .u32 xp] 65)) #[.int .u32 yd,.string yn,.int .u32 yi,.int .u8 yk,.int .u32 yl,.int .u32 yz,.int .u32 yp] 65
  simpa using this)
 have HW := hQ_ hW
 have HS := hQ_ hW0.stays
 have HWK := hQ_ hW0
 have HL := hQ_ hl
 have C0 := hQ_ (aft0 s)
 have f0_X0 := cC7 X0.out
 have f0_Y0 := cC7 Y0.out
 have e1 : (xk != 2) = false := by simpa using hk
 have e2 : (xd == yd) = false := by simpa using hne
 clear hk hne hr hl hW hb1
 go_enter Tryz.func76,Tryz.ntmps76
 go_wp2_with fail
 rw [HW.out]
 go_wp2_with fail
 refine (unhang_w HWK.out xd xn A0.out.rep (lim_aft C0.out.1 HL.out (by omega) (by omega)) (by omega) (by omega) (by omega)).mono ?_
 intro e w1 hh
 rcases Wrote.split hh with ⟨s1,S1,D1,rfl,ho,hr,st,ha⟩ | ⟨s1,S1,D1,rfl,ho,hr,st,ha⟩
 ·obtain ⟨x1,x2⟩ := C0.out.1.app C0.out.2 ha
  have C1 := hQ_ (And.intro x1 (x2.trans ho))
  clear x1 x2 ho ha
  have A1 := hQ_ (A0.out.step HS.out hr st)
  have X1 := hQ_ (A0.out.blk HS.out X0.out (.inl (.inr rfl)) st)
  have Y1 := hQ_ (A0.out.blk HS.out Y0.out (.inr rfl) st)
  obtain ⟨f1_X0,f1_X1,f1_X2,f1_X3,f1_X4,f1_X5,f1_X6⟩ := cC7 X1.out
  obtain ⟨f1_Y0,f1_Y1,f1_Y2,f1_Y3,f1_Y4,f1_Y5,f1_Y6⟩ := cC7 Y1.out
  clear st hr f0_X0 f0_Y0
  go_wp2_with fail
  refine (hang_w HWK.out yd yn xi A1.out.rep (lim_aft C1.out.1 HL.out (by omega) (by omega)) (by omega) (by omega) (by omega) (by omega) (by omega)).mono ?_
  intro e w2 hh
  rcases Wrote.split hh with ⟨s2,S2,D2,rfl,ho,hr,st,ha⟩ | ⟨s2,S2,D2,rfl,ho,hr,st,ha⟩
  ·obtain ⟨x1,x2⟩ := C1.out.1.app C1.out.2 ha
   have C2 := hQ_ (And.intro x1 (x2.trans ho))
   clear x1 x2 ho ha
   have A2 := hQ_ (A1.out.step HS.out hr st)
   have X2 := hQ_ (A1.out.blk HS.out X1.out (.inl (.inr rfl)) st)
   have Y2 := hQ_ (A1.out.blk HS.out Y1.out (.inr rfl) st)
   obtain ⟨f2_X0,f2_X1,f2_X2,f2_X3,f2_X4,f2_X5,f2_X6⟩ := cC7 X2.out
   obtain ⟨f2_Y0,f2_Y1,f2_Y2,f2_Y3,f2_Y4,f2_Y5,f2_Y6⟩ := cC7 Y2.out
   clear st hr f1_X0 f1_X1 f1_X2 f1_X3 f1_X4 f1_X5 f1_X6 f1_Y0 f1_Y1 f1_Y2 f1_Y3 f1_Y4 f1_Y5 f1_Y6
   go_wp2_with fail
   refine (adopt_calls HWK.out yd xi A2.out.rep (lim_aft C2.out.1 HL.out (by omega) (by omega)) (by have := C2.out.1.rd; omega) (by omega) (by omega) (by omega) (by omega)).mono ?_
   intro e w3 hh
   rcases Wrote.split hh with ⟨s3,S3,D3,rfl,ho,hr,st,ha⟩ | ⟨s3,S3,D3,rfl,ho,hr,st,ha⟩
   ·obtain ⟨x1,x2⟩ := C2.out.1.app C2.out.2 ha
    have C3 := hQ_ (And.intro x1 (x2.trans ho))
    clear x1 x2 ho ha
    have A3 := hQ_ (A2.out.step HS.out hr st)
    have X3 := hQ_ (A2.out.blk HS.out X2.out (.inl (.inr rfl)) st)
    have Y3 := hQ_ (A2.out.blk HS.out Y2.out (.inr rfl) st)
    obtain ⟨f3_X0,f3_X1,f3_X2,f3_X3,f3_X4,f3_X5,f3_X6⟩ := cC7 X3.out
    obtain ⟨f3_Y0,f3_Y1,f3_Y2,f3_Y3,f3_Y4,f3_Y5,f3_Y6⟩ := cC7 Y3.out
    clear st hr f2_X0 f2_X1 f2_X2 f2_X3 f2_X4 f2_X5 f2_X6 f2_Y0 f2_Y1 f2_Y2 f2_Y3 f2_Y4 f2_Y5 f2_Y6
    go_wp2_with fail
    refine (tie_calls HWK.out xd (-1) A3.out.rep (lim_aft C3.out.1 HL.out (by omega) (by omega)) (by have := C3.out.1.rd; omega) (by omega) (by omega) (by omega) (by omega)).mono ?_
    intro e w4 hh
    rcases Wrote.split hh with ⟨s4,S4,D4,rfl,ho,hr,st,ha⟩ | ⟨s4,S4,D4,rfl,ho,hr,st,ha⟩
    ·obtain ⟨x1,x2⟩ := C3.out.1.app C3.out.2 ha
     have C4 := hQ_ (And.intro x1 (x2.trans ho))
     clear x1 x2 ho ha
     have A4 := hQ_ (A3.out.step HS.out hr st)
     have X4 := hQ_ (A3.out.blk HS.out X3.out (.inl (.inr rfl)) st)
     have Y4 := hQ_ (A3.out.blk HS.out Y3.out (.inr rfl) st)
     obtain ⟨f4_X0,f4_X1,f4_X2,f4_X3,f4_X4,f4_X5,f4_X6⟩ := cC7 X4.out
     obtain ⟨f4_Y0,f4_Y1,f4_Y2,f4_Y3,f4_Y4,f4_Y5,f4_Y6⟩ := cC7 Y4.out
     clear st hr f3_X0 f3_X1 f3_X2 f3_X3 f3_X4 f3_X5 f3_X6 f3_Y0 f3_Y1 f3_Y2 f3_Y3 f3_Y4 f3_Y5 f3_Y6
     go_wp2_with fail
     refine (tie_calls HWK.out yd (1) A4.out.rep (lim_aft C4.out.1 HL.out (by omega) (by omega)) (by have := C4.out.1.rd; omega) (by omega) (by omega) (by omega) (by omega)).mono ?_
     intro e w5 hh
     rcases Wrote.split hh with ⟨s5,S5,D5,rfl,ho,hr,st,ha⟩ | ⟨s5,S5,D5,rfl,ho,hr,st,ha⟩
     ·obtain ⟨x1,x2⟩ := C4.out.1.app C4.out.2 ha
      have C5 := hQ_ (And.intro x1 (x2.trans ho))
      clear x1 x2 ho ha
      have A5 := hQ_ (A4.out.step HS.out hr st)
      have X5 := hQ_ (A4.out.blk HS.out X4.out (.inl (.inr rfl)) st)
      have Y5 := hQ_ (A4.out.blk HS.out Y4.out (.inr rfl) st)
      obtain ⟨f5_X0,f5_X1,f5_X2,f5_X3,f5_X4,f5_X5,f5_X6⟩ := cC7 X5.out
      obtain ⟨f5_Y0,f5_Y1,f5_Y2,f5_Y3,f5_Y4,f5_Y5,f5_Y6⟩ := cC7 Y5.out
      clear st hr f4_X0 f4_X1 f4_X2 f4_X3 f4_X4 f4_X5 f4_X6 f4_Y0 f4_Y1 f4_Y2 f4_Y3 f4_Y4 f4_Y5 f4_Y6
      go_wp2_with fail
      go_ret
      exact Wrote.of_ok A5.out ⟨C5.out.1.more (by omega) (by omega),C5.out.2⟩
     ·obtain ⟨x1,x2⟩ := C4.out.1.app C4.out.2 ha
      have C5 := hQ_ (And.intro x1 (x2.trans ho))
      clear x1 x2 ho ha
      have A5 := hQ_ (A4.out.step HS.out hr st)
      have X5 := hQ_ (A4.out.blk HS.out X4.out (.inl (.inr rfl)) st)
      have Y5 := hQ_ (A4.out.blk HS.out Y4.out (.inr rfl) st)
      obtain ⟨f5_X0,f5_X1,f5_X2,f5_X3,f5_X4,f5_X5,f5_X6⟩ := cC7 X5.out
      obtain ⟨f5_Y0,f5_Y1,f5_Y2,f5_Y3,f5_Y4,f5_Y5,f5_Y6⟩ := cC7 Y5.out
      clear st hr f4_X0 f4_X1 f4_X2 f4_X3 f4_X4 f4_X5 f4_X6 f4_Y0 f4_Y1 f4_Y2 f4_Y3 f4_Y4 f4_Y5 f4_Y6
      go_wp2_with fail
      go_ret
      exact Wrote.of_bad A5.out ⟨(Aft.stop (qs := []) C5.out.1 C5.out.2).1.more (by omega) (by omega),(Aft.stop (qs := []) C5.out.1 C5.out.2).2⟩
    ·obtain ⟨x1,x2⟩ := C3.out.1.app C3.out.2 ha
     have C4 := hQ_ (And.intro x1 (x2.trans ho))
     clear x1 x2 ho ha
     have A4 := hQ_ (A3.out.step HS.out hr st)
     have X4 := hQ_ (A3.out.blk HS.out X3.out (.inl (.inr rfl)) st)
     have Y4 := hQ_ (A3.out.blk HS.out Y3.out (.inr rfl) st)
     obtain ⟨f4_X0,f4_X1,f4_X2,f4_X3,f4_X4,f4_X5,f4_X6⟩ := cC7 X4.out
     obtain ⟨f4_Y0,f4_Y1,f4_Y2,f4_Y3,f4_Y4,f4_Y5,f4_Y6⟩ := cC7 Y4.out
     clear st hr f3_X0 f3_X1 f3_X2 f3_X3 f3_X4 f3_X5 f3_X6 f3_Y0 f3_Y1 f3_Y2 f3_Y3 f3_Y4 f3_Y5 f3_Y6
     go_wp2_with fail
     go_ret
     exact Wrote.of_bad A4.out ⟨(Aft.stop (qs := [tieP yd (1)]) C4.out.1 C4.out.2).1.more (by omega) (by omega),(Aft.stop (qs := [tieP yd (1)]) C4.out.1 C4.out.2).2⟩
   ·obtain ⟨x1,x2⟩ := C2.out.1.app C2.out.2 ha
    have C3 := hQ_ (And.intro x1 (x2.trans ho))
    clear x1 x2 ho ha
    have A3 := hQ_ (A2.out.step HS.out hr st)
    have X3 := hQ_ (A2.out.blk HS.out X2.out (.inl (.inr rfl)) st)
    have Y3 := hQ_ (A2.out.blk HS.out Y2.out (.inr rfl) st)
    obtain ⟨f3_X0,f3_X1,f3_X2,f3_X3,f3_X4,f3_X5,f3_X6⟩ := cC7 X3.out
    obtain ⟨f3_Y0,f3_Y1,f3_Y2,f3_Y3,f3_Y4,f3_Y5,f3_Y6⟩ := cC7 Y3.out
    clear st hr f2_X0 f2_X1 f2_X2 f2_X3 f2_X4 f2_X5 f2_X6 f2_Y0 f2_Y1 f2_Y2 f2_Y3 f2_Y4 f2_Y5 f2_Y6
    go_wp2_with fail
    go_ret
    exact Wrote.of_bad A3.out ⟨(Aft.stop (qs := [tieP xd (-1),tieP yd (1)]) C3.out.1 C3.out.2).1.more (by omega) (by omega),(Aft.stop (qs := [tieP xd (-1),tieP yd (1)]) C3.out.1 C3.out.2).2⟩
  ·obtain ⟨x1,x2⟩ := C1.out.1.app C1.out.2 ha
   have C2 := hQ_ (And.intro x1 (x2.trans ho))
   clear x1 x2 ho ha
   have A2 := hQ_ (A1.out.step HS.out hr st)
   have X2 := hQ_ (A1.out.blk HS.out X1.out (.inl (.inr rfl)) st)
   have Y2 := hQ_ (A1.out.blk HS.out Y1.out (.inr rfl) st)
   obtain ⟨f2_X0,f2_X1,f2_X2,f2_X3,f2_X4,f2_X5,f2_X6⟩ := cC7 X2.out
   obtain ⟨f2_Y0,f2_Y1,f2_Y2,f2_Y3,f2_Y4,f2_Y5,f2_Y6⟩ := cC7 Y2.out
   clear st hr f1_X0 f1_X1 f1_X2 f1_X3 f1_X4 f1_X5 f1_X6 f1_Y0 f1_Y1 f1_Y2 f1_Y3 f1_Y4 f1_Y5 f1_Y6
   go_wp2_with fail
   go_ret
   exact Wrote.of_bad A2.out ⟨(Aft.stop (qs := [adoptP yd xi,tieP xd (-1),tieP yd (1)]) C2.out.1 C2.out.2).1.more (by omega) (by omega),(Aft.stop (qs := [adoptP yd xi,tieP xd (-1),tieP yd (1)]) C2.out.1 C2.out.2).2⟩
 ·obtain ⟨x1,x2⟩ := C0.out.1.app C0.out.2 ha
  have C1 := hQ_ (And.intro x1 (x2.trans ho))
  clear x1 x2 ho ha
  have A1 := hQ_ (A0.out.step HS.out hr st)
  have X1 := hQ_ (A0.out.blk HS.out X0.out (.inl (.inr rfl)) st)
  have Y1 := hQ_ (A0.out.blk HS.out Y0.out (.inr rfl) st)
  obtain ⟨f1_X0,f1_X1,f1_X2,f1_X3,f1_X4,f1_X5,f1_X6⟩ := cC7 X1.out
  obtain ⟨f1_Y0,f1_Y1,f1_Y2,f1_Y3,f1_Y4,f1_Y5,f1_Y6⟩ := cC7 Y1.out
  clear st hr f0_X0 f0_Y0
  go_wp2_with fail
  go_ret
  exact Wrote.of_bad A1.out ⟨(Aft.stop (qs := [hangP yd yn xi,adoptP yd xi,tieP xd (-1),tieP yd (1)]) C1.out.1 C1.out.2).1.more (by omega) (by omega),(Aft.stop (qs := [hangP yd yn xi,adoptP yd xi,tieP xd (-1),tieP yd (1)]) C1.out.1 C1.out.2).2⟩
theorem move_near (hW0 : Wk Rep) (xd xi xk xl xz xp : Int) (xn : ByteArray) (yd yi yk yl yz yp : Int) (yn : ByteArray) (hr : Rep w v s S D) (hl : Lim s) (h2 : s.rd.length ≤ 19900) (h3 : s.rg.length ≤ 990) (hd0 : 0 ≤ xd) (hd1 : xd ≤ 4294967295) (hi0 : 0 ≤ xi) (hi1 : xi ≤ 4294967295) (hn0 : xn.size ≤ 100000) (jd0 : 0 ≤ yd) (jd1 : yd ≤ 4294967295) (ji0 : 0 ≤ yi) (ji1 : yi ≤ 4294967295) (jn0 : yn.size ≤ 100000) (hk : xk = 2 → xd = yd) :
 Calls Tryz.prog 76 #[v,.agg #[.int .u32 xd,.string xn,.int .u32 xi,.int .u8 xk,.int .u32 xl,.int .u32 xz,.int .u32 xp],.agg #[.int .u32 yd,.string yn,.int .u32 yi,.int .u8 yk,.int .u32 yl,.int .u32 yz,.int .u32 yp]] w (Wrote Rep v s [unhangP xd xn,hangP yd yn xi] 3 0 S D w) := by
 obtain ⟨W,hW⟩ : ∃ W,(w.alloc (.cells #[.int .u32 xd,.string xn,.int .u32 xi,.int .u8 xk,.int .u32 xl,.int .u32 xz,.int .u32 xp] 65)).alloc (.cells #[.int .u32 yd,.string yn,.int .u32 yi,.int .u8 yk,.int .u32 yl,.int .u32 yz,.int .u32 yp] 65) = W := ⟨_,rfl⟩
 have hb1 := bN_ w (.cells #[.int .u32 xd,.string xn,.int .u32 xi,.int .u8 xk,.int .u32 xl,.int .u32 xz,.int .u32 xp] 65)
 have A0 : Hid (At Rep w S D (fun b => (False ∨ b = w.heap.size) ∨ b = w.heap.size + 1) W v s S D) := hQ_ (by
  rw [← hW]
  exact ((At.start hr).own hW0.stays hb1 (Nat.le_refl w.heap.size) (by simp)).own hW0.stays (bW_) (by simp) (by simp))
 have X0 := hQ_ (show Blk W w.heap.size #[.int .u32 xd,.string xn,.int .u32 xi,.int .u8 xk,.int .u32 xl,.int .u32 xz,.int .u32 xp] 65 from hW ▸ (Blk.new_ w _ _).alloc _)
 have Y0 : Hid (Blk W (w.heap.size + 1) #[.int .u32 yd,.string yn,.int .u32 yi,.int .u8 yk,.int .u32 yl,.int .u32 yz,.int .u32 yp] 65) := hQ_ (by
  rw [← hW]
  have := Blk.new_ (w.alloc (.cells #[.int .u32 xd,.string xn,.int .u32 xi,.int .u8 xk,.int .u32 xl,.int .u32 xz,.int .u32 xp] 65)) #[.int .u32 yd,.string yn,.int .u32 yi,.int .u8 yk,.int .u32 yl,.int .u32 yz,.int .u32 yp] 65
  simpa using this)
 have HW := hQ_ hW
 have HS := hQ_ hW0.stays
 have HWK := hQ_ hW0
 have HL := hQ_ hl
 have C0 := hQ_ (aft0 s)
 have f0_X0 := cC7 X0.out
 have f0_Y0 := cC7 Y0.out
 clear hr hl hW hb1
 by_cases hk2 : xk = 2
 ·have e1 : (xk != 2) = false := by simpa using hk2
  have e2 : (xd == yd) = true := by simpa using hk hk2
  clear hk hk2
  go_enter Tryz.func76,Tryz.ntmps76
  go_wp2_with fail
  rw [HW.out]
  go_wp2_with fail
  refine (unhang_w HWK.out xd xn A0.out.rep (lim_aft C0.out.1 HL.out (by omega) (by omega)) (by omega) (by omega) (by omega)).mono ?_
  intro e w1 hh
  rcases Wrote.split hh with ⟨s1,S1,D1,rfl,ho,hr,st,ha⟩ | ⟨s1,S1,D1,rfl,ho,hr,st,ha⟩
  ·obtain ⟨x1,x2⟩ := C0.out.1.app C0.out.2 ha
   have C1 := hQ_ (And.intro x1 (x2.trans ho))
   clear x1 x2 ho ha
   have A1 := hQ_ (A0.out.step HS.out hr st)
   have X1 := hQ_ (A0.out.blk HS.out X0.out (.inl (.inr rfl)) st)
   have Y1 := hQ_ (A0.out.blk HS.out Y0.out (.inr rfl) st)
   obtain ⟨f1_X0,f1_X1,f1_X2,f1_X3,f1_X4,f1_X5,f1_X6⟩ := cC7 X1.out
   obtain ⟨f1_Y0,f1_Y1,f1_Y2,f1_Y3,f1_Y4,f1_Y5,f1_Y6⟩ := cC7 Y1.out
   clear st hr f0_X0 f0_Y0
   go_wp2_with fail
   refine (hang_w HWK.out yd yn xi A1.out.rep (lim_aft C1.out.1 HL.out (by omega) (by omega)) (by omega) (by omega) (by omega) (by omega) (by omega)).mono ?_
   intro e w2 hh
   rcases Wrote.split hh with ⟨s2,S2,D2,rfl,ho,hr,st,ha⟩ | ⟨s2,S2,D2,rfl,ho,hr,st,ha⟩
   ·obtain ⟨x1,x2⟩ := C1.out.1.app C1.out.2 ha
    have C2 := hQ_ (And.intro x1 (x2.trans ho))
    clear x1 x2 ho ha
    have A2 := hQ_ (A1.out.step HS.out hr st)
    have X2 := hQ_ (A1.out.blk HS.out X1.out (.inl (.inr rfl)) st)
    have Y2 := hQ_ (A1.out.blk HS.out Y1.out (.inr rfl) st)
    obtain ⟨f2_X0,f2_X1,f2_X2,f2_X3,f2_X4,f2_X5,f2_X6⟩ := cC7 X2.out
    obtain ⟨f2_Y0,f2_Y1,f2_Y2,f2_Y3,f2_Y4,f2_Y5,f2_Y6⟩ := cC7 Y2.out
    clear st hr f1_X0 f1_X1 f1_X2 f1_X3 f1_X4 f1_X5 f1_X6 f1_Y0 f1_Y1 f1_Y2 f1_Y3 f1_Y4 f1_Y5 f1_Y6
    go_wp2_with fail
    go_ret
    exact Wrote.of_ok A2.out ⟨C2.out.1.more (by omega) (by omega),C2.out.2⟩
   ·obtain ⟨x1,x2⟩ := C1.out.1.app C1.out.2 ha
    have C2 := hQ_ (And.intro x1 (x2.trans ho))
    clear x1 x2 ho ha
    have A2 := hQ_ (A1.out.step HS.out hr st)
    have X2 := hQ_ (A1.out.blk HS.out X1.out (.inl (.inr rfl)) st)
    have Y2 := hQ_ (A1.out.blk HS.out Y1.out (.inr rfl) st)
    obtain ⟨f2_X0,f2_X1,f2_X2,f2_X3,f2_X4,f2_X5,f2_X6⟩ := cC7 X2.out
    obtain ⟨f2_Y0,f2_Y1,f2_Y2,f2_Y3,f2_Y4,f2_Y5,f2_Y6⟩ := cC7 Y2.out
    clear st hr f1_X0 f1_X1 f1_X2 f1_X3 f1_X4 f1_X5 f1_X6 f1_Y0 f1_Y1 f1_Y2 f1_Y3 f1_Y4 f1_Y5 f1_Y6
    go_wp2_with fail
    go_ret
    exact Wrote.of_bad A2.out ⟨(Aft.stop (qs := []) C2.out.1 C2.out.2).1.more (by omega) (by omega),(Aft.stop (qs := []) C2.out.1 C2.out.2).2⟩
  ·obtain ⟨x1,x2⟩ := C0.out.1.app C0.out.2 ha
   have C1 := hQ_ (And.intro x1 (x2.trans ho))
   clear x1 x2 ho ha
   have A1 := hQ_ (A0.out.step HS.out hr st)
   have X1 := hQ_ (A0.out.blk HS.out X0.out (.inl (.inr rfl)) st)
   have Y1 := hQ_ (A0.out.blk HS.out Y0.out (.inr rfl) st)
   obtain ⟨f1_X0,f1_X1,f1_X2,f1_X3,f1_X4,f1_X5,f1_X6⟩ := cC7 X1.out
   obtain ⟨f1_Y0,f1_Y1,f1_Y2,f1_Y3,f1_Y4,f1_Y5,f1_Y6⟩ := cC7 Y1.out
   clear st hr f0_X0 f0_Y0
   go_wp2_with fail
   go_ret
   exact Wrote.of_bad A1.out ⟨(Aft.stop (qs := [hangP yd yn xi]) C1.out.1 C1.out.2).1.more (by omega) (by omega),(Aft.stop (qs := [hangP yd yn xi]) C1.out.1 C1.out.2).2⟩
 ·have e1 : (xk != 2) = true := by simpa using hk2
  clear hk hk2
  go_enter Tryz.func76,Tryz.ntmps76
  go_wp2_with fail
  rw [HW.out]
  go_wp2_with fail
  refine (unhang_w HWK.out xd xn A0.out.rep (lim_aft C0.out.1 HL.out (by omega) (by omega)) (by omega) (by omega) (by omega)).mono ?_
  intro e w3 hh
  rcases Wrote.split hh with ⟨s3,S3,D3,rfl,ho,hr,st,ha⟩ | ⟨s3,S3,D3,rfl,ho,hr,st,ha⟩
  ·obtain ⟨x1,x2⟩ := C0.out.1.app C0.out.2 ha
   have C3 := hQ_ (And.intro x1 (x2.trans ho))
   clear x1 x2 ho ha
   have A3 := hQ_ (A0.out.step HS.out hr st)
   have X3 := hQ_ (A0.out.blk HS.out X0.out (.inl (.inr rfl)) st)
   have Y3 := hQ_ (A0.out.blk HS.out Y0.out (.inr rfl) st)
   obtain ⟨f3_X0,f3_X1,f3_X2,f3_X3,f3_X4,f3_X5,f3_X6⟩ := cC7 X3.out
   obtain ⟨f3_Y0,f3_Y1,f3_Y2,f3_Y3,f3_Y4,f3_Y5,f3_Y6⟩ := cC7 Y3.out
   clear st hr f0_X0 f0_Y0
   go_wp2_with fail
   refine (hang_w HWK.out yd yn xi A3.out.rep (lim_aft C3.out.1 HL.out (by omega) (by omega)) (by omega) (by omega) (by omega) (by omega) (by omega)).mono ?_
   intro e w4 hh
   rcases Wrote.split hh with ⟨s4,S4,D4,rfl,ho,hr,st,ha⟩ | ⟨s4,S4,D4,rfl,ho,hr,st,ha⟩
   ·obtain ⟨x1,x2⟩ := C3.out.1.app C3.out.2 ha
    have C4 := hQ_ (And.intro x1 (x2.trans ho))
    clear x1 x2 ho ha
    have A4 := hQ_ (A3.out.step HS.out hr st)
    have X4 := hQ_ (A3.out.blk HS.out X3.out (.inl (.inr rfl)) st)
    have Y4 := hQ_ (A3.out.blk HS.out Y3.out (.inr rfl) st)
    obtain ⟨f4_X0,f4_X1,f4_X2,f4_X3,f4_X4,f4_X5,f4_X6⟩ := cC7 X4.out
    obtain ⟨f4_Y0,f4_Y1,f4_Y2,f4_Y3,f4_Y4,f4_Y5,f4_Y6⟩ := cC7 Y4.out
    clear st hr f3_X0 f3_X1 f3_X2 f3_X3 f3_X4 f3_X5 f3_X6 f3_Y0 f3_Y1 f3_Y2 f3_Y3 f3_Y4 f3_Y5 f3_Y6
    go_wp2_with fail
    go_ret
    exact Wrote.of_ok A4.out ⟨C4.out.1.more (by omega) (by omega),C4.out.2⟩
   ·obtain ⟨x1,x2⟩ := C3.out.1.app C3.out.2 ha
    have C4 := hQ_ (And.intro x1 (x2.trans ho))
    clear x1 x2 ho ha
    have A4 := hQ_ (A3.out.step HS.out hr st)
    have X4 := hQ_ (A3.out.blk HS.out X3.out (.inl (.inr rfl)) st)
    have Y4 := hQ_ (A3.out.blk HS.out Y3.out (.inr rfl) st)
    obtain ⟨f4_X0,f4_X1,f4_X2,f4_X3,f4_X4,f4_X5,f4_X6⟩ := cC7 X4.out
    obtain ⟨f4_Y0,f4_Y1,f4_Y2,f4_Y3,f4_Y4,f4_Y5,f4_Y6⟩ := cC7 Y4.out
    clear st hr f3_X0 f3_X1 f3_X2 f3_X3 f3_X4 f3_X5 f3_X6 f3_Y0 f3_Y1 f3_Y2 f3_Y3 f3_Y4 f3_Y5 f3_Y6
    go_wp2_with fail
    go_ret
    exact Wrote.of_bad A4.out ⟨(Aft.stop (qs := []) C4.out.1 C4.out.2).1.more (by omega) (by omega),(Aft.stop (qs := []) C4.out.1 C4.out.2).2⟩
  ·obtain ⟨x1,x2⟩ := C0.out.1.app C0.out.2 ha
   have C3 := hQ_ (And.intro x1 (x2.trans ho))
   clear x1 x2 ho ha
   have A3 := hQ_ (A0.out.step HS.out hr st)
   have X3 := hQ_ (A0.out.blk HS.out X0.out (.inl (.inr rfl)) st)
   have Y3 := hQ_ (A0.out.blk HS.out Y0.out (.inr rfl) st)
   obtain ⟨f3_X0,f3_X1,f3_X2,f3_X3,f3_X4,f3_X5,f3_X6⟩ := cC7 X3.out
   obtain ⟨f3_Y0,f3_Y1,f3_Y2,f3_Y3,f3_Y4,f3_Y5,f3_Y6⟩ := cC7 Y3.out
   clear st hr f0_X0 f0_Y0
   go_wp2_with fail
   go_ret
   exact Wrote.of_bad A3.out ⟨(Aft.stop (qs := [hangP yd yn xi]) C3.out.1 C3.out.2).1.more (by omega) (by omega),(Aft.stop (qs := [hangP yd yn xi]) C3.out.1 C3.out.2).2⟩
theorem unlink_no (hW0 : Wk Rep) (xd xi xk xl xz xp : Int) (xn : ByteArray) (hr : Rep w v s S D) (hl : Lim s) (h2 : s.rd.length ≤ 19900) (h3 : s.rg.length ≤ 990) (hd0 : 0 ≤ xd) (hd1 : xd ≤ 4294967295) (hi0 : 0 ≤ xi) (hi1 : xi ≤ 4294967295) (hn0 : xn.size ≤ 100000) (hb : InoB xk xl xz xp) (hk : ∀ p ∈ s.shown,(sp p.key).letter ≠ 0) (hnb : ∀ p ∈ s.shown,blkB xi p = false) (h1 : xk ≠ 1) :
 Calls Tryz.prog 80 #[v,.agg #[.int .u32 xd,.string xn,.int .u32 xi,.int .u8 xk,.int .u32 xl,.int .u32 xz,.int .u32 xp]] w (Ans Rep v s 13 [] 1 1 S D w) := by
 obtain ⟨W,hW⟩ : ∃ W,w.alloc (.cells #[.int .u32 xd,.string xn,.int .u32 xi,.int .u8 xk,.int .u32 xl,.int .u32 xz,.int .u32 xp] 65) = W := ⟨_,rfl⟩
 have hb1 : Below w.heap.size w W := by rw [← hW]; exact bW_
 have hX0 : Blk W w.heap.size #[.int .u32 xd,.string xn,.int .u32 xi,.int .u8 xk,.int .u32 xl,.int .u32 xz,.int .u32 xp] 65 := hW ▸ Blk.new_ w _ _
 obtain ⟨x0,x1,x2,x3,x4,x5,x6⟩ : W.cell? ⟨w.heap.size,0,none⟩ = some (.int .u32 xd) ∧ W.cell? ⟨w.heap.size,1,none⟩ = some (.string xn) ∧ W.cell? ⟨w.heap.size,2,none⟩ = some (.int .u32 xi) ∧ W.cell? ⟨w.heap.size,3,none⟩ = some (.int .u8 xk) ∧ W.cell? ⟨w.heap.size,4,none⟩ = some (.int .u32 xl) ∧ W.cell? ⟨w.heap.size,5,none⟩ = some (.int .u32 xz) ∧ W.cell? ⟨w.heap.size,6,none⟩ = some (.int .u32 xp) := ⟨hX0.cell 0,hX0.cell 1,hX0.cell 2,hX0.cell 3,hX0.cell 4,hX0.cell 5,hX0.cell 6⟩
 obtain ⟨U,hU⟩ : ∃ U,W.alloc (.cells #[.int .u8 xk,.int .u32 xl,.int .u32 xz,.int .u32 xp] 59) = U := ⟨_,rfl⟩
 have hWs : W.heap.size = w.heap.size + 1 := by rw [← hW]; simp
 have hbU : Below W.heap.size W U := by rw [← hU]; exact bW_
 have A0 : Hid (At Rep w S D (fun b => (False ∨ b = w.heap.size) ∨ b = w.heap.size + 1) U v s S D) := hQ_ (by
  rw [← hWs]
  exact ((At.start hr).own hW0.stays hb1 (Nat.le_refl w.heap.size) (by omega)).own hW0.stays hbU (Nat.le_refl _) (by rw [← hU]; simp))
 have X0 := hQ_ (hX0.below hbU)
 have Y0 := hQ_ (show Blk U (w.heap.size + 1) #[.int .u8 xk,.int .u32 xl,.int .u32 xz,.int .u32 xp] 59 by rw [← hWs,← hU]; exact Blk.new_ W _ _)
 have HW := hQ_ hW
 have HU := hQ_ hU
 have C0 := hQ_ (aft0 s)
 have d1 : (xk != 1) = true := by simpa using h1
 clear h1 hk hnb hb
 have f0_X0 := cC7 X0.out
 have f0_Y0 := cC4 Y0.out
 clear hr hl hW hU hb1 hbU hX0
 go_enter Tryz.func80,Tryz.ntmps80
 go_wp2_with fail
 rw [HW.out]
 go_wp2_with fail
 rw [HU.out]
 go_wp2_with fail
 go_ret
 exact Ans.ok A0.out ⟨C0.out.1.more (by omega) (by omega),C0.out.2⟩
theorem unlink_more (hW0 : Wk Rep) (xd xi xk xl xz xp : Int) (xn : ByteArray) (hr : Rep w v s S D) (hl : Lim s) (h2 : s.rd.length ≤ 19900) (h3 : s.rg.length ≤ 990) (hd0 : 0 ≤ xd) (hd1 : xd ≤ 4294967295) (hi0 : 0 ≤ xi) (hi1 : xi ≤ 4294967295) (hn0 : xn.size ≤ 100000) (hb : InoB xk xl xz xp) (hk : ∀ p ∈ s.shown,(sp p.key).letter ≠ 0) (hnb : ∀ p ∈ s.shown,blkB xi p = false) (h1 : xk = 1) (hl1 : 1 < xl) :
 Calls Tryz.prog 80 #[v,.agg #[.int .u32 xd,.string xn,.int .u32 xi,.int .u8 xk,.int .u32 xl,.int .u32 xz,.int .u32 xp]] w (Ans Rep v s 0 [unhangP xd xn,saveP xi xk (xl - 1) xz xp] 1 1 S D w) := by
 obtain ⟨W,hW⟩ : ∃ W,w.alloc (.cells #[.int .u32 xd,.string xn,.int .u32 xi,.int .u8 xk,.int .u32 xl,.int .u32 xz,.int .u32 xp] 65) = W := ⟨_,rfl⟩
 have hb1 : Below w.heap.size w W := by rw [← hW]; exact bW_
 have hX0 : Blk W w.heap.size #[.int .u32 xd,.string xn,.int .u32 xi,.int .u8 xk,.int .u32 xl,.int .u32 xz,.int .u32 xp] 65 := hW ▸ Blk.new_ w _ _
 obtain ⟨x0,x1,x2,x3,x4,x5,x6⟩ : W.cell? ⟨w.heap.size,0,none⟩ = some (.int .u32 xd) ∧ W.cell? ⟨w.heap.size,1,none⟩ = some (.string xn) ∧ W.cell? ⟨w.heap.size,2,none⟩ = some (.int .u32 xi) ∧ W.cell? ⟨w.heap.size,3,none⟩ = some (.int .u8 xk) ∧ W.cell? ⟨w.heap.size,4,none⟩ = some (.int .u32 xl) ∧ W.cell? ⟨w.heap.size,5,none⟩ = some (.int .u32 xz) ∧ W.cell? ⟨w.heap.size,6,none⟩ = some (.int .u32 xp) := ⟨hX0.cell 0,hX0.cell 1,hX0.cell 2,hX0.cell 3,hX0.cell 4,hX0.cell 5,hX0.cell 6⟩
 obtain ⟨U,hU⟩ : ∃ U,W.alloc (.cells #[.int .u8 xk,.int .u32 xl,.int .u32 xz,.int .u32 xp] 59) = U := ⟨_,rfl⟩
 have hWs : W.heap.size = w.heap.size + 1 := by rw [← hW]; simp
 have hbU : Below W.heap.size W U := by rw [← hU]; exact bW_
 have A0 : Hid (At Rep w S D (fun b => (False ∨ b = w.heap.size) ∨ b = w.heap.size + 1) U v s S D) := hQ_ (by
  rw [← hWs]
  exact ((At.start hr).own hW0.stays hb1 (Nat.le_refl w.heap.size) (by omega)).own hW0.stays hbU (Nat.le_refl _) (by rw [← hU]; simp))
 have X0 := hQ_ (hX0.below hbU)
 have Y0 := hQ_ (show Blk U (w.heap.size + 1) #[.int .u8 xk,.int .u32 xl,.int .u32 xz,.int .u32 xp] 59 by rw [← hWs,← hU]; exact Blk.new_ W _ _)
 have HW := hQ_ hW
 have HU := hQ_ hU
 have HS := hQ_ hW0.stays
 have HWK := hQ_ hW0
 have HL := hQ_ hl
 have HRO := hQ_ room_calls
 have C0 := hQ_ (aft0 s)
 have d1 : (xk != 1) = false := by simpa using h1
 have d2 : decide ((1 : Int) < xl) = true := by simpa using hl1
 obtain ⟨b0,b1,b2,b3,b4,b5,b6,b7⟩ := hb
 clear hk hnb h1
 have f0_X0 := cC7 X0.out
 have f0_Y0 := cC4 Y0.out
 clear hr hl hW hU hb1 hbU hX0
 go_enter Tryz.func80,Tryz.ntmps80
 go_wp2_with fail
 rw [HW.out]
 go_wp2_with fail
 rw [HU.out]
 go_wp2_with fail
 refine (unhang_w HWK.out xd xn A0.out.rep (lim_aft C0.out.1 HL.out (by omega) (by omega)) (by omega) (by omega) (by omega)).mono ?_
 intro e w1 hh
 rcases Wrote.split hh with ⟨s1,S1,D1,rfl,ho,hr,st,ha⟩ | ⟨s1,S1,D1,rfl,ho,hr,st,ha⟩
 ·obtain ⟨x1,x2⟩ := C0.out.1.app C0.out.2 ha
  have C1 := hQ_ (And.intro x1 (x2.trans ho))
  clear x1 x2 ho ha
  have A1 := hQ_ (A0.out.step HS.out hr st)
  have X1 := hQ_ (A0.out.blk HS.out X0.out (.inl (.inr rfl)) st)
  have Y1 := hQ_ (A0.out.blk HS.out Y0.out (.inr rfl) st)
  obtain ⟨f1_X0,f1_X1,f1_X2,f1_X3,f1_X4,f1_X5,f1_X6⟩ := cC7 X1.out
  obtain ⟨f1_Y0,f1_Y1,f1_Y2,f1_Y3⟩ := cC4 Y1.out
  clear st hr f0_X0 f0_Y0
  have y1 : w1.frozen? ⟨w.heap.size + 1,1,none⟩ = false := Y1.out.frozen 1
  have AZ := hQ_ (A1.out.set HS.out Y1.out (.inr rfl) (by decide) 1 (.int .u32 (xl - 1)))
  have hYZ := Y1.out.set_ 1 (.int .u32 (xl - 1))
  have YZ := hQ_ (show Blk (w1.setCell ⟨w.heap.size + 1,1,none⟩ (.int .u32 (xl - 1))) (w.heap.size + 1) #[.int .u8 xk,.int .u32 (xl - 1),.int .u32 xz,.int .u32 xp] 59 from hYZ)
  have XZ := hQ_ (X1.out.far (p := ⟨w.heap.size + 1,1,none⟩) (show w.heap.size ≠ w.heap.size + 1 by omega) (.int .u32 (xl - 1)))
  clear hYZ
  have f99_X0 := cC7 XZ.out
  have f99_Y0 := cC4 YZ.out
  go_wp2_with fail
  refine (save_w HWK.out xi xk (xl - 1) xz xp AZ.out.rep (lim_aft C1.out.1 HL.out (by omega) (by omega)) (by omega) (by omega) ⟨by omega,by omega,by omega,by omega,by omega,by omega,by omega,by omega⟩).mono ?_
  intro e w2 hh
  rcases Wrote.split hh with ⟨s2,S2,D2,rfl,ho,hr,st,ha⟩ | ⟨s2,S2,D2,rfl,ho,hr,st,ha⟩
  ·obtain ⟨x1,x2⟩ := C1.out.1.app C1.out.2 ha
   have C2 := hQ_ (And.intro x1 (x2.trans ho))
   clear x1 x2 ho ha
   have A2 := hQ_ (AZ.out.step HS.out hr st)
   have X2 := hQ_ (AZ.out.blk HS.out XZ.out (.inl (.inr rfl)) st)
   have Y2 := hQ_ (AZ.out.blk HS.out YZ.out (.inr rfl) st)
   obtain ⟨f2_X0,f2_X1,f2_X2,f2_X3,f2_X4,f2_X5,f2_X6⟩ := cC7 X2.out
   obtain ⟨f2_Y0,f2_Y1,f2_Y2,f2_Y3⟩ := cC4 Y2.out
   clear st hr y1 f1_X0 f1_X1 f1_X2 f1_X3 f1_X4 f1_X5 f1_X6 f1_Y0 f1_Y1 f1_Y2 f1_Y3 f99_X0 f99_Y0
   go_wp2_with (go_at_call 75; refine (HRO.out _ _).mono ?_; rintro e w9 ⟨rfl,rfl⟩)
   go_ret
   exact Ans.ok A2.out ⟨C2.out.1.more (by omega) (by omega),C2.out.2⟩
  ·obtain ⟨x1,x2⟩ := C1.out.1.app C1.out.2 ha
   have C2 := hQ_ (And.intro x1 (x2.trans ho))
   clear x1 x2 ho ha
   have A2 := hQ_ (AZ.out.step HS.out hr st)
   have X2 := hQ_ (AZ.out.blk HS.out XZ.out (.inl (.inr rfl)) st)
   have Y2 := hQ_ (AZ.out.blk HS.out YZ.out (.inr rfl) st)
   obtain ⟨f2_X0,f2_X1,f2_X2,f2_X3,f2_X4,f2_X5,f2_X6⟩ := cC7 X2.out
   obtain ⟨f2_Y0,f2_Y1,f2_Y2,f2_Y3⟩ := cC4 Y2.out
   clear st hr y1 f1_X0 f1_X1 f1_X2 f1_X3 f1_X4 f1_X5 f1_X6 f1_Y0 f1_Y1 f1_Y2 f1_Y3 f99_X0 f99_Y0
   go_wp2_with (go_at_call 75; refine (HRO.out _ _).mono ?_; rintro e w9 ⟨rfl,rfl⟩)
   go_ret
   exact Ans.full A2.out ⟨(Aft.stop (qs := []) C2.out.1 C2.out.2).1.more (by omega) (by omega),(Aft.stop (qs := []) C2.out.1 C2.out.2).2⟩
 ·obtain ⟨x1,x2⟩ := C0.out.1.app C0.out.2 ha
  have C1 := hQ_ (And.intro x1 (x2.trans ho))
  clear x1 x2 ho ha
  have A1 := hQ_ (A0.out.step HS.out hr st)
  have X1 := hQ_ (A0.out.blk HS.out X0.out (.inl (.inr rfl)) st)
  have Y1 := hQ_ (A0.out.blk HS.out Y0.out (.inr rfl) st)
  obtain ⟨f1_X0,f1_X1,f1_X2,f1_X3,f1_X4,f1_X5,f1_X6⟩ := cC7 X1.out
  obtain ⟨f1_Y0,f1_Y1,f1_Y2,f1_Y3⟩ := cC4 Y1.out
  clear st hr f0_X0 f0_Y0
  go_wp2_with fail
  go_ret
  exact Ans.full A1.out ⟨(Aft.stop (qs := [saveP xi xk (xl - 1) xz xp]) C1.out.1 C1.out.2).1.more (by omega) (by omega),(Aft.stop (qs := [saveP xi xk (xl - 1) xz xp]) C1.out.1 C1.out.2).2⟩
theorem unlink_last (hW0 : Wk Rep) (xd xi xk xl xz xp : Int) (xn : ByteArray) (hr : Rep w v s S D) (hl : Lim s) (h2 : s.rd.length ≤ 19900) (h3 : s.rg.length ≤ 990) (hd0 : 0 ≤ xd) (hd1 : xd ≤ 4294967295) (hi0 : 0 ≤ xi) (hi1 : xi ≤ 4294967295) (hn0 : xn.size ≤ 100000) (hb : InoB xk xl xz xp) (hk : ∀ p ∈ s.shown,(sp p.key).letter ≠ 0) (hnb : ∀ p ∈ s.shown,blkB xi p = false) (h1 : xk = 1) (hl1 : xl ≤ 1) (hnm : xn.size ≤ 32) :
 Calls Tryz.prog 80 #[v,.agg #[.int .u32 xd,.string xn,.int .u32 xi,.int .u8 xk,.int .u32 xl,.int .u32 xz,.int .u32 xp]] w (Ans Rep v s 0 [unhangP xd xn,dropP xi] 1 1 S D w) := by
 obtain ⟨W,hW⟩ : ∃ W,w.alloc (.cells #[.int .u32 xd,.string xn,.int .u32 xi,.int .u8 xk,.int .u32 xl,.int .u32 xz,.int .u32 xp] 65) = W := ⟨_,rfl⟩
 have hb1 : Below w.heap.size w W := by rw [← hW]; exact bW_
 have hX0 : Blk W w.heap.size #[.int .u32 xd,.string xn,.int .u32 xi,.int .u8 xk,.int .u32 xl,.int .u32 xz,.int .u32 xp] 65 := hW ▸ Blk.new_ w _ _
 obtain ⟨x0,x1,x2,x3,x4,x5,x6⟩ : W.cell? ⟨w.heap.size,0,none⟩ = some (.int .u32 xd) ∧ W.cell? ⟨w.heap.size,1,none⟩ = some (.string xn) ∧ W.cell? ⟨w.heap.size,2,none⟩ = some (.int .u32 xi) ∧ W.cell? ⟨w.heap.size,3,none⟩ = some (.int .u8 xk) ∧ W.cell? ⟨w.heap.size,4,none⟩ = some (.int .u32 xl) ∧ W.cell? ⟨w.heap.size,5,none⟩ = some (.int .u32 xz) ∧ W.cell? ⟨w.heap.size,6,none⟩ = some (.int .u32 xp) := ⟨hX0.cell 0,hX0.cell 1,hX0.cell 2,hX0.cell 3,hX0.cell 4,hX0.cell 5,hX0.cell 6⟩
 obtain ⟨U,hU⟩ : ∃ U,W.alloc (.cells #[.int .u8 xk,.int .u32 xl,.int .u32 xz,.int .u32 xp] 59) = U := ⟨_,rfl⟩
 have hWs : W.heap.size = w.heap.size + 1 := by rw [← hW]; simp
 have hbU : Below W.heap.size W U := by rw [← hU]; exact bW_
 have A0 : Hid (At Rep w S D (fun b => (False ∨ b = w.heap.size) ∨ b = w.heap.size + 1) U v s S D) := hQ_ (by
  rw [← hWs]
  exact ((At.start hr).own hW0.stays hb1 (Nat.le_refl w.heap.size) (by omega)).own hW0.stays hbU (Nat.le_refl _) (by rw [← hU]; simp))
 have X0 := hQ_ (hX0.below hbU)
 have Y0 := hQ_ (show Blk U (w.heap.size + 1) #[.int .u8 xk,.int .u32 xl,.int .u32 xz,.int .u32 xp] 59 by rw [← hWs,← hU]; exact Blk.new_ W _ _)
 have HW := hQ_ hW
 have HU := hQ_ hU
 have HS := hQ_ hW0.stays
 have HWK := hQ_ hW0
 have HL := hQ_ hl
 have HRO := hQ_ room_calls
 have C0 := hQ_ (aft0 s)
 have HEM := hQ_ (fun w (S D : Nat → Prop) (t : Vs) (hr : Rep w v t S D) (hl : Lim t) (hg : t.rg.length ≤ 999) h1 h2 => empty_none hW0 xi hr hl hg hi0 hi1 h1 h2)
 have d1 : (xk != 1) = false := by simpa using h1
 have d2 : decide ((1 : Int) < xl) = false := by simpa using hl1
 obtain ⟨b0,b1,b2,b3,b4,b5,b6,b7⟩ := hb
 have HSUB := hQ_ (cut_sub (hW0.stays.ok hr) (kE xd xn))
 have HKK := hQ_ hk
 have HNB := hQ_ hnb
 clear hk hnb h1
 have f0_X0 := cC7 X0.out
 have f0_Y0 := cC4 Y0.out
 clear hr hl hW hU hb1 hbU hX0
 go_enter Tryz.func80,Tryz.ntmps80
 go_wp2_with fail
 rw [HW.out]
 go_wp2_with fail
 rw [HU.out]
 go_wp2_with fail
 refine (unhang_w HWK.out xd xn A0.out.rep (lim_aft C0.out.1 HL.out (by omega) (by omega)) (by omega) (by omega) (by omega)).mono ?_
 intro e w1 hh
 rcases Wrote.split hh with ⟨s1,S1,D1,rfl,ho,hr,st,ha⟩ | ⟨s1,S1,D1,rfl,ho,hr,st,ha⟩
 ·obtain ⟨x1,x2⟩ := C0.out.1.app C0.out.2 ha
  have C1 := hQ_ (And.intro x1 (x2.trans ho))
  clear x1 x2 ho ha
  have A1 := hQ_ (A0.out.step HS.out hr st)
  have X1 := hQ_ (A0.out.blk HS.out X0.out (.inl (.inr rfl)) st)
  have Y1 := hQ_ (A0.out.blk HS.out Y0.out (.inr rfl) st)
  obtain ⟨f1_X0,f1_X1,f1_X2,f1_X3,f1_X4,f1_X5,f1_X6⟩ := cC7 X1.out
  obtain ⟨f1_Y0,f1_Y1,f1_Y2,f1_Y3⟩ := cC4 Y1.out
  clear st hr f0_X0 f0_Y0
  go_wp2_with fail
  refine (HEM.out _ _ _ _ A1.out.rep (lim_aft C1.out.1 HL.out (by omega) (by omega)) (by have := C1.out.1.rg; omega) (fun p hp => HKK.out p (HSUB.out p (by rw [← unh_sm C1.out.1]; exact hp))) (fun p hp => HNB.out p (HSUB.out p (by rw [← unh_sm C1.out.1]; exact hp)))).mono ?_
  intro e w2 hh
  rcases Wrote.split hh with ⟨s2,S2,D2,rfl,ho,hr,st,ha⟩ | ⟨s2,S2,D2,rfl,ho,hr,st,ha⟩
  ·obtain ⟨x1,x2⟩ := C1.out.1.app C1.out.2 ha
   have C2 := hQ_ (And.intro x1 (x2.trans ho))
   clear x1 x2 ho ha
   have A2 := hQ_ (A1.out.step HS.out hr st)
   have X2 := hQ_ (A1.out.blk HS.out X1.out (.inl (.inr rfl)) st)
   have Y2 := hQ_ (A1.out.blk HS.out Y1.out (.inr rfl) st)
   obtain ⟨f2_X0,f2_X1,f2_X2,f2_X3,f2_X4,f2_X5,f2_X6⟩ := cC7 X2.out
   obtain ⟨f2_Y0,f2_Y1,f2_Y2,f2_Y3⟩ := cC4 Y2.out
   clear st hr f1_X0 f1_X1 f1_X2 f1_X3 f1_X4 f1_X5 f1_X6 f1_Y0 f1_Y1 f1_Y2 f1_Y3
   go_wp2_with fail
   refine (drop_w HWK.out xi A2.out.rep (lim_aft C2.out.1 HL.out (by omega) (by omega)) (by omega) (by omega)).mono ?_
   intro e w3 hh
   rcases Wrote.split hh with ⟨s3,S3,D3,rfl,ho,hr,st,ha⟩ | ⟨s3,S3,D3,rfl,ho,hr,st,ha⟩
   ·obtain ⟨x1,x2⟩ := C2.out.1.app C2.out.2 ha
    have C3 := hQ_ (And.intro x1 (x2.trans ho))
    clear x1 x2 ho ha
    have A3 := hQ_ (A2.out.step HS.out hr st)
    have X3 := hQ_ (A2.out.blk HS.out X2.out (.inl (.inr rfl)) st)
    have Y3 := hQ_ (A2.out.blk HS.out Y2.out (.inr rfl) st)
    obtain ⟨f3_X0,f3_X1,f3_X2,f3_X3,f3_X4,f3_X5,f3_X6⟩ := cC7 X3.out
    obtain ⟨f3_Y0,f3_Y1,f3_Y2,f3_Y3⟩ := cC4 Y3.out
    clear st hr f2_X0 f2_X1 f2_X2 f2_X3 f2_X4 f2_X5 f2_X6 f2_Y0 f2_Y1 f2_Y2 f2_Y3
    go_wp2_with (go_at_call 75; refine (HRO.out _ _).mono ?_; rintro e w9 ⟨rfl,rfl⟩)
    go_ret
    exact Ans.ok A3.out ⟨C3.out.1.more (by omega) (by omega),C3.out.2⟩
   ·obtain ⟨x1,x2⟩ := C2.out.1.app C2.out.2 ha
    have C3 := hQ_ (And.intro x1 (x2.trans ho))
    clear x1 x2 ho ha
    have A3 := hQ_ (A2.out.step HS.out hr st)
    have X3 := hQ_ (A2.out.blk HS.out X2.out (.inl (.inr rfl)) st)
    have Y3 := hQ_ (A2.out.blk HS.out Y2.out (.inr rfl) st)
    obtain ⟨f3_X0,f3_X1,f3_X2,f3_X3,f3_X4,f3_X5,f3_X6⟩ := cC7 X3.out
    obtain ⟨f3_Y0,f3_Y1,f3_Y2,f3_Y3⟩ := cC4 Y3.out
    clear st hr f2_X0 f2_X1 f2_X2 f2_X3 f2_X4 f2_X5 f2_X6 f2_Y0 f2_Y1 f2_Y2 f2_Y3
    go_wp2_with (go_at_call 75; refine (HRO.out _ _).mono ?_; rintro e w9 ⟨rfl,rfl⟩)
    go_ret
    exact Ans.full A3.out ⟨(Aft.stop (qs := []) C3.out.1 C3.out.2).1.more (by omega) (by omega),(Aft.stop (qs := []) C3.out.1 C3.out.2).2⟩
  ·obtain ⟨x1,x2⟩ := C1.out.1.app C1.out.2 ha
   have C2 := hQ_ (And.intro x1 (x2.trans ho))
   clear x1 x2 ho ha
   have A2 := hQ_ (A1.out.step HS.out hr st)
   have X2 := hQ_ (A1.out.blk HS.out X1.out (.inl (.inr rfl)) st)
   have Y2 := hQ_ (A1.out.blk HS.out Y1.out (.inr rfl) st)
   obtain ⟨f2_X0,f2_X1,f2_X2,f2_X3,f2_X4,f2_X5,f2_X6⟩ := cC7 X2.out
   obtain ⟨f2_Y0,f2_Y1,f2_Y2,f2_Y3⟩ := cC4 Y2.out
   clear st hr f1_X0 f1_X1 f1_X2 f1_X3 f1_X4 f1_X5 f1_X6 f1_Y0 f1_Y1 f1_Y2 f1_Y3
   go_wp2_with (go_at_call 75; refine (HRO.out _ _).mono ?_; rintro e w9 ⟨rfl,rfl⟩)
   go_ret
   exact Ans.full A2.out ⟨(Aft.stop (qs := [dropP xi]) C2.out.1 C2.out.2).1.more (by omega) (by omega),(Aft.stop (qs := [dropP xi]) C2.out.1 C2.out.2).2⟩
 ·obtain ⟨x1,x2⟩ := C0.out.1.app C0.out.2 ha
  have C1 := hQ_ (And.intro x1 (x2.trans ho))
  clear x1 x2 ho ha
  have A1 := hQ_ (A0.out.step HS.out hr st)
  have X1 := hQ_ (A0.out.blk HS.out X0.out (.inl (.inr rfl)) st)
  have Y1 := hQ_ (A0.out.blk HS.out Y0.out (.inr rfl) st)
  obtain ⟨f1_X0,f1_X1,f1_X2,f1_X3,f1_X4,f1_X5,f1_X6⟩ := cC7 X1.out
  obtain ⟨f1_Y0,f1_Y1,f1_Y2,f1_Y3⟩ := cC4 Y1.out
  clear st hr f0_X0 f0_Y0
  go_wp2_with fail
  go_ret
  exact Ans.full A1.out ⟨(Aft.stop (qs := [dropP xi]) C1.out.1 C1.out.2).1.more (by omega) (by omega),(Aft.stop (qs := [dropP xi]) C1.out.1 C1.out.2).2⟩
end Go.Proofs.YtfalhnomhidkcaaGreatDoor.DirsKb
namespace Go.Proofs.YtfalhnomhidkcaaGreatDoor.DirsKc
open Go.RowKit
open Byte KeysM TreeM ViewM ViewKm NodeM NodeG NamesM NamesL WalkM WalkF WalkKm DirsV Lst Chg TreeL ViewL WalkL WalkV Vat WalkKa WalkKb DirsK DirsKa DirsKb
open Own hiding keeps
variable {Rep : RepT} {w : World} {v : Value} {s : Vs} {S D : Nat → Prop}
def Mxs (w : World) (S : Nat → Prop) : Prop := Mx w ∧ ¬ S 0
theorem Mxs.lt {w : World} {S : Nat → Prop} (h : Mxs w S) : 0 < w.heap.size := by
 obtain ⟨⟨m,hm⟩,_⟩ := h
 exact World.block_lt_of_cell? w ⟨0,0,none⟩ hm
theorem Mxs.step {w w' : World} {S D S' D' : Nat → Prop} (h : Mxs w S) (st : Stp S D S' D' w w') : Mxs w' S' := by
 refine ⟨?_,fun hs => ?_⟩
 ·obtain ⟨m,hm⟩ := h.1
  exact ⟨m,st.chg.cell hm h.2⟩
 ·rcases st.own _ hs with h1 | h1
  ·exact h.2 h1
  ·have := h.lt
   omega
theorem Mxs.below {w w' : World} {S : Nat → Prop} (h : Mxs w S) (hb : Below w.heap.size w w') : Mxs w' S := ⟨h.1.below hb,h.2⟩
theorem Mxs.at_ {w0 w : World} {S0 D0 M S D : Nat → Prop} {v : Value} {s : Vs} (h : Mxs w0 S0) (A : At Rep w0 S0 D0 M w v s S D) : Mxs w S := h.step A.st
theorem results_tct {P : Program} {fn : Func} {u p q : Tmp} {ty : TypeId} (h : fn.results = #[.tmp u,.cell p ty,.tmp q]) (tmps : Array Value) (w : World) (g : Nat) (t : TypeId) (cs : Array Value) (fr : Nat × Nat) (d : TypeDesc)
 (hp : tmps.getD p undef = .pointer (some ⟨g,0,none⟩)) (v : Value) (hv : tmps.getD u undef = v) (x : Value) (hx : tmps.getD q undef = x) (hg : w.heap[g]? = some (.cells cs t fr)) (hu : P.underlying ty = some d) (hd : (match d with | .struct _ | .array _ _ => true | _ => false) = true) (hi : (P.info? ty).map (·.size) = some cs.size) :
 (results fn tmps).run P w = .ok (.tuple #[v,.agg cs,x]) w := by
 subst hv
 subst hx
 have hp' : tmps[p]?.getD undef = .pointer (some ⟨g,0,none⟩) := by simpa using hp
 simp [results,h,hp',asAddr,run_loadVar_row w g t ty cs fr d hg hu hd hi]
def leadM (L : List Pr) (path : ByteArray) : Int × Ino × Int := if (findM L path).2 ≠ 0 then (0,ino0,(findM L path).2) else if (findM L path).1.ino = 0 then (0,ino0,10) else ((findM L path).1.ino,(findM L path).1.node,0)
def LeadR (Rep : RepT) (v : Value) (s : Vs) (path : ByteArray) (S D : Nat → Prop) (w : World) (r : Int × Ino × Int) (e : Ending) (w' : World) : Prop := ∃ s' S' D',e = .returned (.tuple #[.int .u32 r.1,.agg #[.int .u8 r.2.1.k,.int .u32 r.2.1.l,.int .u32 r.2.1.s,.int .u32 r.2.1.p],.int .i64 r.2.2]) ∧ Rep w' v s' S' D' ∧ Stp S D S' D' w w' ∧ FindR s path s'
theorem set4 {v1 : World} {g : Nat} {z0 z1 z2 z3 : Value} {U : TypeId} (K : Blk v1 g #[z0,z1,z2,z3] U) (a b c d : Value) : Blk ((((v1.setCell ⟨g,0,none⟩ a).setCell ⟨g,1,none⟩ b).setCell ⟨g,2,none⟩ c).setCell ⟨g,3,none⟩ d) g #[a,b,c,d] U := by
 have h1 := K.set_ 0 a
 have h2 := h1.set_ 1 b
 have h3 := h2.set_ 2 c
 have h4 := h3.set_ 3 d
 exact h4
theorem at4 (hS : Stays Rep) {w0 w : World} {S0 D0 M S D : Nat → Prop} {v : Value} {s : Vs} (A : At Rep w0 S0 D0 M w v s S D) {r : Nat} {z0 z1 z2 z3 : Value} {T : TypeId} (h : Blk w r #[z0,z1,z2,z3] T) (hr : M r) (hne : 100 ≠ T ∧ 172 ≠ T) (a b c d : Value) : At Rep w0 S0 D0 M ((((w.setCell ⟨r,0,none⟩ a).setCell ⟨r,1,none⟩ b).setCell ⟨r,2,none⟩ c).setCell ⟨r,3,none⟩ d) v s S D := by
 have h1 := h.set_ 0 a
 have h2 := h1.set_ 1 b
 have h3 := h2.set_ 2 c
 exact (((A.set hS h hr hne 0 a).set hS h1 hr hne 1 b).set hS h2 hr hne 2 c).set hS h3 hr hne 3 d
theorem lead_calls (hW : Wk Rep) {w : World} {v : Value} {s : Vs} {S D : Nat → Prop} (path : ByteArray) (hr : Rep w v s S D) (hl : Lim s) (h2 : s.rd.length ≤ 19000) (hp : path.size ≤ 100000) (hx : Mxs w S) :
 Calls Tryz.prog 77 #[v,.string path] w (LeadR Rep v s path S D w (leadM s.shown path)) := by
 obtain ⟨W,hW0⟩ : ∃ W,w.alloc (.cells #[.int .u8 0,.int .u32 0,.int .u32 0,.int .u32 0] 59) = W := ⟨_,rfl⟩
 have hbW : Below w.heap.size w W := by rw [← hW0]; exact bW_
 have A0 := hQ_ ((At.start hr).own hW.stays hbW (Nat.le_refl w.heap.size) (by rw [← hW0]; simp))
 have R0 := hQ_ (show Blk W w.heap.size #[.int .u8 0,.int .u32 0,.int .u32 0,.int .u32 0] 59 from hW0 ▸ Blk.new_ w _ _)
 have HW := hQ_ hW0
 have HS := hQ_ hW.stays
 have HFI := hQ_ (fun w (S D : Nat → Prop) (hr : Rep w v s S D) (hx : Mx w) => hW.find path hr hl h2 hp hx)
 have HX := hQ_ (hx.below hbW).1
 unfold leadM
 obtain ⟨⟨⟨sd,sn,si,⟨sk,sl,sz,sp⟩⟩,er⟩,hR⟩ : ∃ R,findM s.shown path = R := ⟨_,rfl⟩
 rw [hR] at HFI ⊢
 dsimp only at HFI ⊢
 clear hr hl h2 hp hx hW0 hbW hR
 by_cases he : er = 0
 ·subst he
  rw [if_neg (fun h => h rfl)]
  by_cases h0 : si = 0
  ·rw [if_pos h0]
   have d0 : (si == 0) = true := by simpa using h0
   clear h0
   go_enter Tryz.func77,Tryz.ntmps77
   go_wp2_with fail
   rw [HW.out]
   go_wp2_with fail
   refine (HFI.out _ _ _ A0.out.rep HX.out).mono ?_
   rintro e w2 ⟨s2,S2,D2,rfl,hr2,st2,hf⟩
   have hbn := bN_ w2 (.cells #[.int .u32 sd,.string sn,.int .u32 si,.int .u8 sk,.int .u32 sl,.int .u32 sz,.int .u32 sp] 65)
   have A2 := hQ_ ((A0.out.step HS.out hr2 st2).below HS.out hbn)
   have R2 := hQ_ ((A0.out.blk HS.out R0.out (.inr rfl) st2).below hbn)
   have HF := hQ_ hf
   clear hr2 st2 hf hbn
   go_wp2_with ((with_reducible refine pick none ?_); refine store_blk rfl 59 _ _ rfl w.heap.size #[.int .u8 0,.int .u32 0,.int .u32 0,.int .u32 0] rfl rfl 59 _ R2.out info_ino rfl (by simp [Value.oneCell']) ?_; intro w5 hk5 hg5)
   have A5 := A2.out.stored HS.out R2.out (.inr rfl) (by decide) hg5
   exact bodyPost_ret (v := .tuple #[.int .u32 0,.agg #[.int .u8 0,.int .u32 0,.int .u32 0,.int .u32 0],.int .i64 10]) (results_tct rfl _ _ w.heap.size 59 _ (0,0) _ rfl (.int .u32 0) rfl (.int .i64 10) rfl hk5 Tryz.underlying59 rfl info_ino) rfl ⟨s2,S2,D2,rfl,A5.rep,A5.st,HF.out⟩
  ·rw [if_neg h0]
   have d0 : (si == 0) = false := by simpa using h0
   clear h0
   go_enter Tryz.func77,Tryz.ntmps77
   go_wp2_with fail
   rw [HW.out]
   go_wp2_with fail
   refine (HFI.out _ _ _ A0.out.rep HX.out).mono ?_
   rintro e w2 ⟨s2,S2,D2,rfl,hr2,st2,hf⟩
   obtain ⟨U,hU⟩ : ∃ U,w2.alloc (.cells #[.int .u32 sd,.string sn,.int .u32 si,.int .u8 sk,.int .u32 sl,.int .u32 sz,.int .u32 sp] 65) = U := ⟨_,rfl⟩
   have hbn : Below w2.heap.size w2 U := by rw [← hU]; exact bW_
   have A2 := hQ_ ((A0.out.step HS.out hr2 st2).below HS.out hbn)
   have R2 := hQ_ ((A0.out.blk HS.out R0.out (.inr rfl) st2).below hbn)
   have X2 := hQ_ (show Blk U w2.heap.size #[.int .u32 sd,.string sn,.int .u32 si,.int .u8 sk,.int .u32 sl,.int .u32 sz,.int .u32 sp] 65 from hU ▸ Blk.new_ w2 _ _)
   have HF := hQ_ hf
   have HU := hQ_ hU
   have hlt : w.heap.size < w2.heap.size := (A0.out.blk HS.out R0.out (.inr rfl) st2).lt
   obtain ⟨x2,x3,x4,x5,x6⟩ : U.cell? ⟨w2.heap.size,2,none⟩ = some (.int .u32 si) ∧ U.cell? ⟨w2.heap.size,3,none⟩ = some (.int .u8 sk) ∧ U.cell? ⟨w2.heap.size,4,none⟩ = some (.int .u32 sl) ∧ U.cell? ⟨w2.heap.size,5,none⟩ = some (.int .u32 sz) ∧ U.cell? ⟨w2.heap.size,6,none⟩ = some (.int .u32 sp) := ⟨X2.out.cell 2,X2.out.cell 3,X2.out.cell 4,X2.out.cell 5,X2.out.cell 6⟩
   obtain ⟨r0,r1,r2,r3⟩ : U.cell? ⟨w.heap.size,0,none⟩ = some (.int .u8 0) ∧ U.cell? ⟨w.heap.size,1,none⟩ = some (.int .u32 0) ∧ U.cell? ⟨w.heap.size,2,none⟩ = some (.int .u32 0) ∧ U.cell? ⟨w.heap.size,3,none⟩ = some (.int .u32 0) := ⟨R2.out.cell 0,R2.out.cell 1,R2.out.cell 2,R2.out.cell 3⟩
   obtain ⟨q0,q1,q2,q3⟩ : U.frozen? ⟨w.heap.size,0,none⟩ = false ∧ U.frozen? ⟨w.heap.size,1,none⟩ = false ∧ U.frozen? ⟨w.heap.size,2,none⟩ = false ∧ U.frozen? ⟨w.heap.size,3,none⟩ = false := ⟨R2.out.frozen 0,R2.out.frozen 1,R2.out.frozen 2,R2.out.frozen 3⟩
   have hne1 : ¬ w2.heap.size = w.heap.size := by omega
   have hne2 : ¬ w.heap.size = w2.heap.size := by omega
   have y2 : (w2.alloc (.cells #[.int .u32 sd,.string sn,.int .u32 si,.int .u8 sk,.int .u32 sl,.int .u32 sz,.int .u32 sp] 65)).cell? ⟨w2.heap.size,2,none⟩ = some (.int .u32 si) := by rw [hU]; exact x2
   clear hr2 st2 hf hbn hU
   go_wp2_with fail
   rw [HU.out]
   go_region_law (fail)
   all_goals
    have A5 := hQ_ ((at4 HS.out A2.out R2.out (.inr rfl) (by decide) (.int .u8 sk) (.int .u32 sl) (.int .u32 sz) (.int .u32 sp)).below HS.out ((Below.refl _ _).drew))
    have R5 := hQ_ (set4 R2.out (.int .u8 sk) (.int .u32 sl) (.int .u32 sz) (.int .u32 sp)).drew
    go_wp2_with fail
    exact bodyPost_ret (v := .tuple #[.int .u32 si,.agg #[.int .u8 sk,.int .u32 sl,.int .u32 sz,.int .u32 sp],.int .i64 0]) (results_tct rfl _ _ w.heap.size 59 _ (0,0) _ rfl (.int .u32 si) rfl (.int .i64 0) rfl R5.out Tryz.underlying59 rfl info_ino) rfl ⟨s2,S2,D2,rfl,A5.out.rep,A5.out.st,HF.out⟩
 ·rw [if_pos he]
  have d0 : (er != 0) = true := by simpa using he
  clear he
  go_enter Tryz.func77,Tryz.ntmps77
  go_wp2_with fail
  rw [HW.out]
  go_wp2_with fail
  refine (HFI.out _ _ _ A0.out.rep HX.out).mono ?_
  rintro e w2 ⟨s2,S2,D2,rfl,hr2,st2,hf⟩
  have hbn := bN_ w2 (.cells #[.int .u32 sd,.string sn,.int .u32 si,.int .u8 sk,.int .u32 sl,.int .u32 sz,.int .u32 sp] 65)
  have A2 := hQ_ ((A0.out.step HS.out hr2 st2).below HS.out hbn)
  have R2 := hQ_ ((A0.out.blk HS.out R0.out (.inr rfl) st2).below hbn)
  have HF := hQ_ hf
  clear hr2 st2 hf hbn
  go_wp2_with ((with_reducible refine pick none ?_); refine store_blk rfl 59 _ _ rfl w.heap.size #[.int .u8 0,.int .u32 0,.int .u32 0,.int .u32 0] rfl rfl 59 _ R2.out info_ino rfl (by simp [Value.oneCell']) ?_; intro w5 hk5 hg5)
  have A5 := A2.out.stored HS.out R2.out (.inr rfl) (by decide) hg5
  exact bodyPost_ret (v := .tuple #[.int .u32 0,.agg #[.int .u8 0,.int .u32 0,.int .u32 0,.int .u32 0],.int .i64 er]) (results_tct rfl _ _ w.heap.size 59 _ (0,0) _ rfl (.int .u32 0) rfl (.int .i64 er) rfl hk5 Tryz.underlying59 rfl info_ino) rfl ⟨s2,S2,D2,rfl,A5.rep,A5.st,HF.out⟩
end Go.Proofs.YtfalhnomhidkcaaGreatDoor.DirsKc
namespace Go.Proofs.YtfalhnomhidkcaaGreatDoor.DirsKd
open Go.RowKit
open Byte KeysM TreeM ViewM ViewKm NodeM NodeG NamesM NamesL WalkM WalkF WalkKm DirsV Lst Chg TreeL ViewL WalkL WalkV Vat WalkKa WalkKb DirsK DirsKa DirsKb DirsKc
open Own hiding keeps
variable {Rep : RepT} {w : World} {v : Value} {s : Vs} {S D : Nat → Prop}
theorem when_t (er : Int) (w : World) : Calls Tryz.prog 72 #[.bool true,.int .i64 er] w fun e w' => e = .returned (.int .i64 er) ∧ w = w' := when_calls true er w
theorem when_f (er : Int) (w : World) : Calls Tryz.prog 72 #[.bool false,.int .i64 er] w fun e w' => e = .returned (.int .i64 0) ∧ w = w' := when_calls false er w
def FndC (Rep : RepT) (v : Value) (s t : Vs) (y : Spot) (er : Int) (S D : Nat → Prop) (w : World) (e : Ending) (w' : World) : Prop := ∃ s' S' D',e = .returned (.tuple #[.agg #[.int .u32 y.dir,.string y.name,.int .u32 y.ino,.int .u8 y.node.k,.int .u32 y.node.l,.int .u32 y.node.s,.int .u32 y.node.p],.int .i64 er]) ∧ Rep w' v s' S' D' ∧ Stp S D S' D' w w' ∧ Sm s' t ∧ s'.rd.length ≤ t.rd.length + 40 ∧ s'.rg.length ≤ t.rg.length
theorem find_c (hW : Wk Rep) {w : World} {v : Value} {s t : Vs} {S D : Nat → Prop} (path : ByteArray) {y : Spot} {er : Int} (hy : findM s.shown path = (y,er)) (hr : Rep w v t S D) (hsm : Sm t s) (hl : Lim t) (h2 : t.rd.length ≤ 19000) (hp : path.size ≤ 100000) (hx : Mx w) : Calls Tryz.prog 28 #[v,.string path] w (FndC Rep v s t y er S D w) := by
 refine (hW.find path hr hl h2 hp hx).mono ?_
 rw [hsm.shown,hy]
 rintro e w' ⟨s',S',D',he,hr',st,hf⟩
 exact ⟨s',S',D',he,hr',st,Sm.of_find hf,hf.len,Nat.le_of_eq (by rw [hf.rg])⟩
def LeadC (Rep : RepT) (v : Value) (s t : Vs) (i : Int) (n : Ino) (er : Int) (S D : Nat → Prop) (w : World) (e : Ending) (w' : World) : Prop := ∃ s' S' D',e = .returned (.tuple #[.int .u32 i,.agg #[.int .u8 n.k,.int .u32 n.l,.int .u32 n.s,.int .u32 n.p],.int .i64 er]) ∧ Rep w' v s' S' D' ∧ Stp S D S' D' w w' ∧ Sm s' t ∧ s'.rd.length ≤ t.rd.length + 40 ∧ s'.rg.length ≤ t.rg.length
theorem lead_c (hW : Wk Rep) {w : World} {v : Value} {s t : Vs} {S D : Nat → Prop} (path : ByteArray) {i : Int} {n : Ino} {er : Int} (hy : leadM s.shown path = (i,n,er)) (hr : Rep w v t S D) (hsm : Sm t s) (hl : Lim t) (h2 : t.rd.length ≤ 19000) (hp : path.size ≤ 100000) (hx : Mxs w S) : Calls Tryz.prog 77 #[v,.string path] w (LeadC Rep v s t i n er S D w) := by
 refine (lead_calls hW path hr hl h2 hp hx).mono ?_
 rw [hsm.shown,hy]
 rintro e w' ⟨s',S',D',he,hr',st,hf⟩
 exact ⟨s',S',D',he,hr',st,Sm.of_find hf,hf.len,Nat.le_of_eq (by rw [hf.rg])⟩
theorem Aft.found {s t t' : Vs} {ps : List Wrt} {k m : Nat} (h : Aft s t ps k m) (hs : Sm t' t) (h1 : t'.rd.length ≤ t.rd.length + 40) (h2 : t'.rg.length ≤ t.rg.length) : Aft s t' ps (k + 40) m := ⟨hs.trans h.sm,by have := h.rd; omega,by have := h.rg; omega⟩
theorem Aft.sm0 {s t : Vs} {k m : Nat} (h : Aft s t [] k m) : Sm t s := h.sm
theorem Aft.thru {s t s' : Vs} {ps : List Wrt} {a b k m : Nat} {x : Bool} (C : Aft s t [] a b ∧ (goW s []).2 = true) (h : Aft t s' ps k m ∧ (goW t ps).2 = x) : Aft s s' ps (a + k) (b + m) ∧ (goW s ps).2 = x := by
 have h1 := h.1.from_ (Aft.sm0 C.1) C.1.rd C.1.rg
 exact ⟨h1.1,h1.2.trans h.2⟩
theorem clr_err {L : List Pr} {x : Spot} {d : Bool} (h : (clrV L x d).1 ≠ 0) : (clrV L x d).2 = [] := by
 unfold clrV at h ⊢
 split
 ·rfl
 ·rename_i h0
  rw [if_neg h0] at h
  split
  ·rename_i hd
   rw [if_pos hd] at h
   unfold remV at h ⊢
   split
   ·rfl
   ·rename_i h1
    rw [if_neg h1] at h
    split
    ·rfl
    ·rename_i h2
     rw [if_neg h2] at h
     exact absurd rfl h
  ·rename_i hd
   rw [if_neg hd] at h
   unfold unlV at h ⊢
   split
   ·rfl
   ·rename_i h1
    rw [if_neg h1] at h
    split
    ·rename_i h2
     rw [if_pos h2] at h
     exact absurd rfl h
    ·rename_i h2
     rw [if_neg h2] at h
     exact absurd rfl h
theorem find_ib (L : List Pr) (path : ByteArray) : InoB (findM L path).1.node.k (findM L path).1.node.l (findM L path).1.node.s (findM L path).1.node.p := by
 have hz : InoB 0 0 0 0 := ⟨by decide,by decide,by decide,by decide,by decide,by decide,by decide,by decide⟩
 have hl : ∀ i,InoB (loadM L i).1.k (loadM L i).1.l (loadM L i).1.s (loadM L i).1.p := fun i => by
  have := load_k L i
  exact ⟨this.1,this.2.1,this.2.2.1,this.2.2.2.1,this.2.2.2.2.1,this.2.2.2.2.2.1,this.2.2.2.2.2.2.1,this.2.2.2.2.2.2.2⟩
 unfold findM
 split
 ·exact hz
 ·suffices H : ∀ (l : List ByteArray) (x : Spot),InoB x.node.k x.node.l x.node.s x.node.p → InoB (findL L x l).1.node.k (findL L x l).1.node.l (findL L x l).1.node.s (findL L x l).1.node.p from H _ _ (hl 1)
  intro l
  induction l with
  | nil => intro x h; exact h
  | cons n r ih =>
    intro x h
    unfold findL
    split
    ·exact hz
    ·split
     ·exact hz
     ·refine ih _ ?_
      unfold stepM
      split
      ·exact hl _
      ·exact hz
theorem unlink_calls (hW0 : Wk Rep) (xd xi xk xl xz xp : Int) (xn : ByteArray) (hr : Rep w v s S D) (hl : Lim s) (h2 : s.rd.length ≤ 19900) (h3 : s.rg.length ≤ 990) (hd0 : 0 ≤ xd) (hd1 : xd ≤ 4294967295) (hi0 : 0 ≤ xi) (hi1 : xi ≤ 4294967295) (hn0 : xn.size ≤ 32) (hb : InoB xk xl xz xp) (hk : ∀ p ∈ s.shown,(sp p.key).letter ≠ 0) (hnb : ∀ p ∈ s.shown,blkB xi p = false) :
 Calls Tryz.prog 80 #[v,.agg #[.int .u32 xd,.string xn,.int .u32 xi,.int .u8 xk,.int .u32 xl,.int .u32 xz,.int .u32 xp]] w (Ans Rep v s (unlV ⟨xd,xn,xi,⟨xk,xl,xz,xp⟩⟩).1 (unlV ⟨xd,xn,xi,⟨xk,xl,xz,xp⟩⟩).2 1 1 S D w) := by
 unfold unlV
 dsimp only
 by_cases h1 : xk = 1
 ·rw [if_neg (fun h => h h1)]
  by_cases hl1 : 1 < xl
  ·rw [if_pos hl1]
   exact unlink_more hW0 xd xi xk xl xz xp xn hr hl h2 h3 hd0 hd1 hi0 hi1 (by omega) hb hk hnb h1 hl1
  ·rw [if_neg hl1]
   exact unlink_last hW0 xd xi xk xl xz xp xn hr hl h2 h3 hd0 hd1 hi0 hi1 (by omega) hb hk hnb h1 (by omega) hn0
 ·rw [if_pos h1]
  exact unlink_no hW0 xd xi xk xl xz xp xn hr hl h2 h3 hd0 hd1 hi0 hi1 (by omega) hb hk hnb h1
theorem move_calls (hW0 : Wk Rep) (xd xi xk xl xz xp : Int) (xn : ByteArray) (yd yi yk yl yz yp : Int) (yn : ByteArray) (hr : Rep w v s S D) (hl : Lim s) (h2 : s.rd.length ≤ 19900) (h3 : s.rg.length ≤ 990) (hd0 : 0 ≤ xd) (hd1 : xd ≤ 4294967295) (hi0 : 0 ≤ xi) (hi1 : xi ≤ 4294967295) (hn0 : xn.size ≤ 100000) (jd0 : 0 ≤ yd) (jd1 : yd ≤ 4294967295) (ji0 : 0 ≤ yi) (ji1 : yi ≤ 4294967295) (jn0 : yn.size ≤ 100000) :
 Calls Tryz.prog 76 #[v,.agg #[.int .u32 xd,.string xn,.int .u32 xi,.int .u8 xk,.int .u32 xl,.int .u32 xz,.int .u32 xp],.agg #[.int .u32 yd,.string yn,.int .u32 yi,.int .u8 yk,.int .u32 yl,.int .u32 yz,.int .u32 yp]] w (Wrote Rep v s (movPs ⟨xd,xn,xi,⟨xk,xl,xz,xp⟩⟩ ⟨yd,yn,yi,⟨yk,yl,yz,yp⟩⟩) 3 0 S D w) := by
 unfold movPs
 dsimp only
 by_cases h : xk = 2 ∧ xd ≠ yd
 ·rw [if_pos h]
  exact move_far hW0 xd xi xk xl xz xp xn yd yi yk yl yz yp yn hr hl h2 h3 hd0 hd1 hi0 hi1 hn0 jd0 jd1 ji0 ji1 jn0 h.1 h.2
 ·rw [if_neg h]
  exact move_near hW0 xd xi xk xl xz xp xn yd yi yk yl yz yp yn hr hl h2 h3 hd0 hd1 hi0 hi1 hn0 jd0 jd1 ji0 ji1 jn0 (fun hk => Classical.byContradiction fun hne => h ⟨hk,hne⟩)
theorem replace_none (hW0 : Wk Rep) (xd xi xk xl xz xp kind : Int) (xn : ByteArray) (hr : Rep w v s S D) (hl : Lim s) (h2 : s.rd.length ≤ 19900) (h3 : s.rg.length ≤ 990) (hd0 : 0 ≤ xd) (hd1 : xd ≤ 4294967295) (hi0 : 0 ≤ xi) (hi1 : xi ≤ 4294967295) (hn0 : xn.size ≤ 32) (hb : InoB xk xl xz xp) (d : Bool) (hi : xi = 0) :
 Calls Tryz.prog 74 #[v,.agg #[.int .u32 xd,.string xn,.int .u32 xi,.int .u8 xk,.int .u32 xl,.int .u32 xz,.int .u32 xp],.int .u8 kind] w (Ans Rep v s (clrV s.shown ⟨xd,xn,xi,⟨xk,xl,xz,xp⟩⟩ d).1 (clrV s.shown ⟨xd,xn,xi,⟨xk,xl,xz,xp⟩⟩ d).2 1 1 S D w) := by
 obtain ⟨W,hW⟩ : ∃ W,w.alloc (.cells #[.int .u32 xd,.string xn,.int .u32 xi,.int .u8 xk,.int .u32 xl,.int .u32 xz,.int .u32 xp] 65) = W := ⟨_,rfl⟩
 have hbW : Below w.heap.size w W := by rw [← hW]; exact bW_
 have A0 := hQ_ ((At.start hr).own hW0.stays hbW (Nat.le_refl w.heap.size) (by rw [← hW]; simp))
 have X0 := hQ_ (show Blk W w.heap.size #[.int .u32 xd,.string xn,.int .u32 xi,.int .u8 xk,.int .u32 xl,.int .u32 xz,.int .u32 xp] 65 from hW ▸ Blk.new_ w _ _)
 have HW := hQ_ hW
 have C0 := hQ_ (aft0 s)
 have f0_X0 := cC7 X0.out
 have HV : clrV s.shown ⟨xd,xn,xi,⟨xk,xl,xz,xp⟩⟩ d = (0,[]) := if_pos hi
 rw [HV]
 dsimp only
 have d1 : (xi == 0) = true := by simpa using hi
 clear hr hl hW hbW HV hi hb
 go_enter Tryz.func74,Tryz.ntmps74
 go_wp2_with fail
 rw [HW.out]
 go_wp2_with fail
 go_ret
 exact Ans.ok A0.out ⟨C0.out.1.more (by omega) (by omega),C0.out.2⟩
theorem replace_dir (hW0 : Wk Rep) (xd xi xk xl xz xp kind : Int) (xn : ByteArray) (hr : Rep w v s S D) (hl : Lim s) (h2 : s.rd.length ≤ 19900) (h3 : s.rg.length ≤ 990) (hd0 : 0 ≤ xd) (hd1 : xd ≤ 4294967295) (hi0 : 0 ≤ xi) (hi1 : xi ≤ 4294967295) (hn0 : xn.size ≤ 32) (hb : InoB xk xl xz xp) (hi : xi ≠ 0) (hkd : kind = 2) (hk : ∀ p ∈ s.shown,(sp p.key).letter ≠ 0) :
 Calls Tryz.prog 74 #[v,.agg #[.int .u32 xd,.string xn,.int .u32 xi,.int .u8 xk,.int .u32 xl,.int .u32 xz,.int .u32 xp],.int .u8 kind] w (Ans Rep v s (clrV s.shown ⟨xd,xn,xi,⟨xk,xl,xz,xp⟩⟩ true).1 (clrV s.shown ⟨xd,xn,xi,⟨xk,xl,xz,xp⟩⟩ true).2 1 1 S D w) := by
 obtain ⟨W,hW⟩ : ∃ W,w.alloc (.cells #[.int .u32 xd,.string xn,.int .u32 xi,.int .u8 xk,.int .u32 xl,.int .u32 xz,.int .u32 xp] 65) = W := ⟨_,rfl⟩
 have hbW : Below w.heap.size w W := by rw [← hW]; exact bW_
 have A0 := hQ_ ((At.start hr).own hW0.stays hbW (Nat.le_refl w.heap.size) (by rw [← hW]; simp))
 have X0 := hQ_ (show Blk W w.heap.size #[.int .u32 xd,.string xn,.int .u32 xi,.int .u8 xk,.int .u32 xl,.int .u32 xz,.int .u32 xp] 65 from hW ▸ Blk.new_ w _ _)
 have HW := hQ_ hW
 have HS := hQ_ hW0.stays
 have f0_X0 := cC7 X0.out
 have HV : clrV s.shown ⟨xd,xn,xi,⟨xk,xl,xz,xp⟩⟩ true = remV s.shown ⟨xd,xn,xi,⟨xk,xl,xz,xp⟩⟩ := by unfold clrV; rw [if_neg hi,if_pos rfl]
 rw [HV]
 have d1 : (xi == 0) = false := by simpa using hi
 have d2 : (kind == 2) = true := by simpa using hkd
 have HC := hQ_ (fun w (S D : Nat → Prop) (hr : Rep w v s S D) => remove_calls hW0 xd xi xk xl xz xp xn hr hl h2 h3 hd0 hd1 hi0 hi1 (by omega) hk)
 obtain ⟨⟨rx,ps⟩,hrx⟩ : ∃ r,remV s.shown ⟨xd,xn,xi,⟨xk,xl,xz,xp⟩⟩ = r := ⟨_,rfl⟩
 rw [hrx] at HC ⊢
 dsimp only at HC ⊢
 clear hr hl hW hbW HV hi hb hkd hrx hk
 go_enter Tryz.func74,Tryz.ntmps74
 go_wp2_with fail
 rw [HW.out]
 go_wp2_with fail
 refine (HC.out _ _ _ A0.out.rep).mono ?_
 intro e w1 hh
 rcases Ans.split hh with ⟨s1,S1,D1,rfl,ho,hr,st,ha⟩ | ⟨s1,S1,D1,rfl,ho,hr,st,ha⟩
 ·have A1 := hQ_ (A0.out.step HS.out hr st)
  have HA := hQ_ (And.intro ha ho)
  clear hr st ha ho
  go_wp2_with fail
  go_ret
  exact Ans.ok A1.out HA.out
 ·have A1 := hQ_ (A0.out.step HS.out hr st)
  have HA := hQ_ (And.intro ha ho)
  clear hr st ha ho
  go_wp2_with fail
  go_ret
  exact Ans.full A1.out HA.out
theorem replace_file (hW0 : Wk Rep) (xd xi xk xl xz xp kind : Int) (xn : ByteArray) (hr : Rep w v s S D) (hl : Lim s) (h2 : s.rd.length ≤ 19900) (h3 : s.rg.length ≤ 990) (hd0 : 0 ≤ xd) (hd1 : xd ≤ 4294967295) (hi0 : 0 ≤ xi) (hi1 : xi ≤ 4294967295) (hn0 : xn.size ≤ 32) (hb : InoB xk xl xz xp) (hi : xi ≠ 0) (hkd : kind ≠ 2) (hk : ∀ p ∈ s.shown,(sp p.key).letter ≠ 0) (hnb : ∀ p ∈ s.shown,blkB xi p = false) :
 Calls Tryz.prog 74 #[v,.agg #[.int .u32 xd,.string xn,.int .u32 xi,.int .u8 xk,.int .u32 xl,.int .u32 xz,.int .u32 xp],.int .u8 kind] w (Ans Rep v s (clrV s.shown ⟨xd,xn,xi,⟨xk,xl,xz,xp⟩⟩ false).1 (clrV s.shown ⟨xd,xn,xi,⟨xk,xl,xz,xp⟩⟩ false).2 1 1 S D w) := by
 obtain ⟨W,hW⟩ : ∃ W,w.alloc (.cells #[.int .u32 xd,.string xn,.int .u32 xi,.int .u8 xk,.int .u32 xl,.int .u32 xz,.int .u32 xp] 65) = W := ⟨_,rfl⟩
 have hbW : Below w.heap.size w W := by rw [← hW]; exact bW_
 have A0 := hQ_ ((At.start hr).own hW0.stays hbW (Nat.le_refl w.heap.size) (by rw [← hW]; simp))
 have X0 := hQ_ (show Blk W w.heap.size #[.int .u32 xd,.string xn,.int .u32 xi,.int .u8 xk,.int .u32 xl,.int .u32 xz,.int .u32 xp] 65 from hW ▸ Blk.new_ w _ _)
 have HW := hQ_ hW
 have HS := hQ_ hW0.stays
 have f0_X0 := cC7 X0.out
 have HV : clrV s.shown ⟨xd,xn,xi,⟨xk,xl,xz,xp⟩⟩ false = unlV ⟨xd,xn,xi,⟨xk,xl,xz,xp⟩⟩ := by unfold clrV; rw [if_neg hi,if_neg (by decide)]
 rw [HV]
 have d1 : (xi == 0) = false := by simpa using hi
 have d2 : (kind == 2) = false := by simpa using hkd
 have HC := hQ_ (fun w (S D : Nat → Prop) (hr : Rep w v s S D) => unlink_calls hW0 xd xi xk xl xz xp xn hr hl h2 h3 hd0 hd1 hi0 hi1 hn0 hb hk hnb)
 obtain ⟨⟨rx,ps⟩,hrx⟩ : ∃ r,unlV ⟨xd,xn,xi,⟨xk,xl,xz,xp⟩⟩ = r := ⟨_,rfl⟩
 rw [hrx] at HC ⊢
 dsimp only at HC ⊢
 clear hr hl hW hbW HV hi hb hkd hrx hk hnb
 go_enter Tryz.func74,Tryz.ntmps74
 go_wp2_with fail
 rw [HW.out]
 go_wp2_with fail
 refine (HC.out _ _ _ A0.out.rep).mono ?_
 intro e w1 hh
 rcases Ans.split hh with ⟨s1,S1,D1,rfl,ho,hr,st,ha⟩ | ⟨s1,S1,D1,rfl,ho,hr,st,ha⟩
 ·have A1 := hQ_ (A0.out.step HS.out hr st)
  have HA := hQ_ (And.intro ha ho)
  clear hr st ha ho
  go_wp2_with fail
  go_ret
  exact Ans.ok A1.out HA.out
 ·have A1 := hQ_ (A0.out.step HS.out hr st)
  have HA := hQ_ (And.intro ha ho)
  clear hr st ha ho
  go_wp2_with fail
  go_ret
  exact Ans.full A1.out HA.out
theorem replace_calls (hW0 : Wk Rep) (xd xi xk xl xz xp kind : Int) (xn : ByteArray) (hr : Rep w v s S D) (hl : Lim s) (h2 : s.rd.length ≤ 19900) (h3 : s.rg.length ≤ 990) (hd0 : 0 ≤ xd) (hd1 : xd ≤ 4294967295) (hi0 : 0 ≤ xi) (hi1 : xi ≤ 4294967295) (hn0 : xn.size ≤ 32) (hb : InoB xk xl xz xp) (hk : ∀ p ∈ s.shown,(sp p.key).letter ≠ 0) (hnb : ∀ p ∈ s.shown,blkB xi p = false) :
 Calls Tryz.prog 74 #[v,.agg #[.int .u32 xd,.string xn,.int .u32 xi,.int .u8 xk,.int .u32 xl,.int .u32 xz,.int .u32 xp],.int .u8 kind] w (Ans Rep v s (clrV s.shown ⟨xd,xn,xi,⟨xk,xl,xz,xp⟩⟩ (decide (kind = 2))).1 (clrV s.shown ⟨xd,xn,xi,⟨xk,xl,xz,xp⟩⟩ (decide (kind = 2))).2 1 1 S D w) := by
 by_cases hi : xi = 0
 ·exact replace_none hW0 xd xi xk xl xz xp kind xn hr hl h2 h3 hd0 hd1 hi0 hi1 hn0 hb _ hi
 ·by_cases hkd : kind = 2
  ·rw [decide_eq_true hkd]
   exact replace_dir hW0 xd xi xk xl xz xp kind xn hr hl h2 h3 hd0 hd1 hi0 hi1 hn0 hb hi hkd hk
  ·rw [decide_eq_false hkd]
   exact replace_file hW0 xd xi xk xl xz xp kind xn hr hl h2 h3 hd0 hd1 hi0 hi1 hn0 hb hi hkd hk hnb
theorem aftF {s t t' : Vs} {k m : Nat} (C : Aft s t [] k m ∧ (goW s []).2 = true) (hs : Sm t' t) (h1 : t'.rd.length ≤ t.rd.length + 40) (h2 : t'.rg.length ≤ t.rg.length) : Aft s t' [] (k + 40) m ∧ (goW s []).2 = true := ⟨Aft.found C.1 hs h1 h2,rfl⟩
end Go.Proofs.YtfalhnomhidkcaaGreatDoor.DirsKd
namespace Go.Proofs.YtfalhnomhidkcaaGreatDoor.DirsKe
open Go.RowKit
open Byte KeysM TreeM ViewM ViewKm NodeM NodeG NamesM NamesL WalkM WalkF WalkKm DirsV Lst Chg TreeL ViewL WalkL WalkV Vat WalkKa WalkKb DirsK DirsKa DirsKb DirsKc DirsKd
open Own hiding keeps
variable {Rep : RepT} {w : World} {v : Value} {s : Vs} {S D : Nat → Prop}
theorem first_2g (a b : Int) (w : World) (g : Nat) (hg : w.heap.size = g) : Calls Tryz.prog 71 #[.slice (some ⟨g,0,none⟩) 2 2] (w.alloc (.cells #[.int .i64 a,.int .i64 b] 66)) fun e w' => e = .returned (.int .i64 (fst_ [a,b])) ∧ (w.alloc (.cells #[.int .i64 a,.int .i64 b] 66)) = w' := by
 subst hg
 exact first_2 a b w
theorem first_2d (a b : Int) (w : World) (g : Nat) (hg : w.heap.size = g) : Calls Tryz.prog 71 #[.slice (some ⟨g,0,none⟩) 2 2] (w.alloc (.cells #[.int .i64 a,.int .i64 b] 66)).drew fun e w' => e = .returned (.int .i64 (fst_ [a,b])) ∧ (w.alloc (.cells #[.int .i64 a,.int .i64 b] 66)).drew = w' := by
 subst hg
 exact first_calls _ 2 2 [a,b] _ ((So.lit erE 66 w (base := w.heap.size) [a,b] #[.int .i64 a,.int .i64 b] 2 rfl rfl (Nat.le_refl _) (by decide)).sl.below ((Below.refl _ _).drew)) (by decide)
theorem first_2b (a b : Int) (w : World) (g : Nat) (hg : w.heap.size = g) : (Calls Tryz.prog 71 #[.slice (some ⟨g,0,none⟩) 2 2] (w.alloc (.cells #[.int .i64 a,.int .i64 b] 66)) fun e w' => e = .returned (.int .i64 (fst_ [a,b])) ∧ (w.alloc (.cells #[.int .i64 a,.int .i64 b] 66)) = w') ∧ (Calls Tryz.prog 71 #[.slice (some ⟨g,0,none⟩) 2 2] (w.alloc (.cells #[.int .i64 a,.int .i64 b] 66)).drew fun e w' => e = .returned (.int .i64 (fst_ [a,b])) ∧ (w.alloc (.cells #[.int .i64 a,.int .i64 b] 66)).drew = w') := ⟨first_2g a b w g hg,first_2d a b w g hg⟩
theorem make_err (hW0 : Wk Rep) (path : ByteArray) (kind ino : Int) {xd xi xk xl xz xp er : Int} {xn : ByteArray} (hr : Rep w v s S D) (hl : Lim s) (h2 : s.rd.length ≤ 18000) (h3 : s.rg.length ≤ 900) (hx : Mxs w S) (hp : path.size ≤ 100000) (k0 : 0 ≤ kind) (k1 : kind ≤ 255) (i0 : 0 ≤ ino) (i1 : ino ≤ 4294967295) (hR : findM s.shown path = (⟨xd,xn,xi,⟨xk,xl,xz,xp⟩⟩,er)) (he : er ≠ 0) :
 Calls Tryz.prog 43 #[v,.string path,.int .u8 kind,.int .u32 ino] w (Ans Rep v s er [] 41 0 S D w) := by
 have A0 := hQ_ (At.start hr)
 have HX := hQ_ hx
 have HS := hQ_ hW0.stays
 have HL := hQ_ hl
 have C0 := hQ_ (aft0 s)
 have HWT := hQ_ when_t
 have HWF := hQ_ when_f
 have HFI := hQ_ (fun w (S D : Nat → Prop) (t : Vs) (hr : Rep w v t S D) (hsm : Sm t s) hl h2 hx => find_c hW0 path hR hr hsm hl h2 hp hx)
 unfold FndC at HFI
 have hsb := find_bd s.shown path
 rw [hR] at hsb
 obtain ⟨hd0,hd1,hi0,hi1,hn0⟩ := hsb
 dsimp only at hd0 hd1 hi0 hi1 hn0 HFI
 have d0 : (er != 0) = true := by simpa using he
 clear hr hl hp hR hx hW0
 by_cases h0 : xi = 0
 ·have d1 : (xi != 0) = false := by simpa using h0
  clear h0
  go_enter Tryz.func43,Tryz.ntmps43
  go_wp2_with fail
  refine (HFI.out _ _ _ _ A0.out.rep (Aft.sm0 C0.out.1) (lim_aft C0.out.1 HL.out (by omega) (by omega)) (by have := C0.out.1.rd; omega) (HX.out.at_ A0.out).1).mono ?_
  rintro e w1 ⟨s1,S1,D1,rfl,hr,st,hsm,hrd,hrg⟩
  have C1 := hQ_ (aftF C0.out hsm hrd hrg)
  have X1 := hQ_ (Blk.new_ w1 #[.int .u32 xd,.string xn,.int .u32 xi,.int .u8 xk,.int .u32 xl,.int .u32 xz,.int .u32 xp] 65)
  have hbn := bX_ X1.out
  have AQ := A0.out.step HS.out hr st
  have A1 := hQ_ (AQ.own HS.out hbn (Nat.le_refl w1.heap.size) (by simp))
  have f1_X0 := cC7 X1.out
  clear hr st hsm hrd hrg hbn AQ
  have FE2 : fst_ [er,0] = er := by unfold fst_; rw [if_neg he]
  have HF2 := hQ_ (first_2b (er) (0) (w1.alloc (.cells #[.int .u32 xd,.string xn,.int .u32 xi,.int .u8 xk,.int .u32 xl,.int .u32 xz,.int .u32 xp] 65)) (w1.heap.size + 1) (by simp))
  rw [FE2] at HF2
  clear FE2
  go_upto_region 2 with (fail)
  go_cut [11] (fun p wx => p = .int .i64 (er) ∧ BL_ (w1.alloc (.cells #[.int .u32 xd,.string xn,.int .u32 xi,.int .u8 xk,.int .u32 xl,.int .u32 xz,.int .u32 xp] 65)) wx)
  case first =>
   go_wp2_with (first | (go_at_call 72; (with_reducible refine (HWT.out _ _).mono ?_); rintro e w9 ⟨rfl,rfl⟩) | (go_at_call 72; (with_reducible refine (HWF.out _ _).mono ?_); rintro e w9 ⟨rfl,rfl⟩) | (go_at_call 71; (with_reducible refine HF2.out.1.mono ?_); rintro e w9 ⟨rfl,rfl⟩))
   all_goals
    go_meet
    exact fB_
  case rest =>
   obtain ⟨rfl,hbc⟩ := hcut
   have A2 := hQ_ (A1.out.below HS.out hbc)
   have X2 := hQ_ (X1.out.below hbc)
   skip
   have f2_X0 := cC7 X2.out
   clear hbc f1_X0
   clear he
   go_wp2_with fail
   go_ret
   exact Ans.ok A2.out ⟨C1.out.1.more (by omega) (by omega),C1.out.2⟩
 ·have d1 : (xi != 0) = true := by simpa using h0
  clear h0
  go_enter Tryz.func43,Tryz.ntmps43
  go_wp2_with fail
  refine (HFI.out _ _ _ _ A0.out.rep (Aft.sm0 C0.out.1) (lim_aft C0.out.1 HL.out (by omega) (by omega)) (by have := C0.out.1.rd; omega) (HX.out.at_ A0.out).1).mono ?_
  rintro e w3 ⟨s3,S3,D3,rfl,hr,st,hsm,hrd,hrg⟩
  have C3 := hQ_ (aftF C0.out hsm hrd hrg)
  have X3 := hQ_ (Blk.new_ w3 #[.int .u32 xd,.string xn,.int .u32 xi,.int .u8 xk,.int .u32 xl,.int .u32 xz,.int .u32 xp] 65)
  have hbn := bX_ X3.out
  have AQ := A0.out.step HS.out hr st
  have A3 := hQ_ (AQ.own HS.out hbn (Nat.le_refl w3.heap.size) (by simp))
  have f3_X0 := cC7 X3.out
  clear hr st hsm hrd hrg hbn AQ
  have FE4 : fst_ [er,11] = er := by unfold fst_; rw [if_neg he]
  have HF4 := hQ_ (first_2b (er) (11) (w3.alloc (.cells #[.int .u32 xd,.string xn,.int .u32 xi,.int .u8 xk,.int .u32 xl,.int .u32 xz,.int .u32 xp] 65)) (w3.heap.size + 1) (by simp))
  rw [FE4] at HF4
  clear FE4
  go_upto_region 2 with (fail)
  go_cut [11] (fun p wx => p = .int .i64 (er) ∧ BL_ (w3.alloc (.cells #[.int .u32 xd,.string xn,.int .u32 xi,.int .u8 xk,.int .u32 xl,.int .u32 xz,.int .u32 xp] 65)) wx)
  case first =>
   go_wp2_with (first | (go_at_call 72; (with_reducible refine (HWT.out _ _).mono ?_); rintro e w9 ⟨rfl,rfl⟩) | (go_at_call 72; (with_reducible refine (HWF.out _ _).mono ?_); rintro e w9 ⟨rfl,rfl⟩) | (go_at_call 71; (with_reducible refine HF4.out.1.mono ?_); rintro e w9 ⟨rfl,rfl⟩))
   all_goals
    go_meet
    exact fB_
  case rest =>
   obtain ⟨rfl,hbc⟩ := hcut
   have A4 := hQ_ (A3.out.below HS.out hbc)
   have X4 := hQ_ (X3.out.below hbc)
   skip
   have f4_X0 := cC7 X4.out
   clear hbc f3_X0
   clear he
   go_wp2_with fail
   go_ret
   exact Ans.ok A4.out ⟨C3.out.1.more (by omega) (by omega),C3.out.2⟩
theorem make_there (hW0 : Wk Rep) (path : ByteArray) (kind ino : Int) {xd xi xk xl xz xp er : Int} {xn : ByteArray} (hr : Rep w v s S D) (hl : Lim s) (h2 : s.rd.length ≤ 18000) (h3 : s.rg.length ≤ 900) (hx : Mxs w S) (hp : path.size ≤ 100000) (k0 : 0 ≤ kind) (k1 : kind ≤ 255) (i0 : 0 ≤ ino) (i1 : ino ≤ 4294967295) (hR : findM s.shown path = (⟨xd,xn,xi,⟨xk,xl,xz,xp⟩⟩,er)) (he : er = 0) (h0 : xi ≠ 0) :
 Calls Tryz.prog 43 #[v,.string path,.int .u8 kind,.int .u32 ino] w (Ans Rep v s 11 [] 41 0 S D w) := by
 have A0 := hQ_ (At.start hr)
 have HX := hQ_ hx
 have HS := hQ_ hW0.stays
 have HL := hQ_ hl
 have C0 := hQ_ (aft0 s)
 have HWT := hQ_ when_t
 have HWF := hQ_ when_f
 have HFI := hQ_ (fun w (S D : Nat → Prop) (t : Vs) (hr : Rep w v t S D) (hsm : Sm t s) hl h2 hx => find_c hW0 path hR hr hsm hl h2 hp hx)
 unfold FndC at HFI
 have hsb := find_bd s.shown path
 rw [hR] at hsb
 obtain ⟨hd0,hd1,hi0,hi1,hn0⟩ := hsb
 dsimp only at hd0 hd1 hi0 hi1 hn0 HFI
 subst he
 have d1 : (xi != 0) = true := by simpa using h0
 clear hr hl hp hR hx hW0 h0
 go_enter Tryz.func43,Tryz.ntmps43
 go_wp2_with fail
 refine (HFI.out _ _ _ _ A0.out.rep (Aft.sm0 C0.out.1) (lim_aft C0.out.1 HL.out (by omega) (by omega)) (by have := C0.out.1.rd; omega) (HX.out.at_ A0.out).1).mono ?_
 rintro e w1 ⟨s1,S1,D1,rfl,hr,st,hsm,hrd,hrg⟩
 have C1 := hQ_ (aftF C0.out hsm hrd hrg)
 have X1 := hQ_ (Blk.new_ w1 #[.int .u32 xd,.string xn,.int .u32 xi,.int .u8 xk,.int .u32 xl,.int .u32 xz,.int .u32 xp] 65)
 have hbn := bX_ X1.out
 have AQ := A0.out.step HS.out hr st
 have A1 := hQ_ (AQ.own HS.out hbn (Nat.le_refl w1.heap.size) (by simp))
 have f1_X0 := cC7 X1.out
 clear hr st hsm hrd hrg hbn AQ
 have FE2 : fst_ [0,11] = 11 := rfl
 have HF2 := hQ_ (first_2b (0) (11) (w1.alloc (.cells #[.int .u32 xd,.string xn,.int .u32 xi,.int .u8 xk,.int .u32 xl,.int .u32 xz,.int .u32 xp] 65)) (w1.heap.size + 1) (by simp))
 rw [FE2] at HF2
 clear FE2
 go_upto_region 2 with (fail)
 go_cut [11] (fun p wx => p = .int .i64 (11) ∧ BL_ (w1.alloc (.cells #[.int .u32 xd,.string xn,.int .u32 xi,.int .u8 xk,.int .u32 xl,.int .u32 xz,.int .u32 xp] 65)) wx)
 case first =>
  go_wp2_with (first | (go_at_call 72; (with_reducible refine (HWT.out _ _).mono ?_); rintro e w9 ⟨rfl,rfl⟩) | (go_at_call 72; (with_reducible refine (HWF.out _ _).mono ?_); rintro e w9 ⟨rfl,rfl⟩) | (go_at_call 71; (with_reducible refine HF2.out.1.mono ?_); rintro e w9 ⟨rfl,rfl⟩))
  all_goals
   go_meet
   exact fB_
 case rest =>
  obtain ⟨rfl,hbc⟩ := hcut
  have A2 := hQ_ (A1.out.below HS.out hbc)
  have X2 := hQ_ (X1.out.below hbc)
  skip
  have f2_X0 := cC7 X2.out
  clear hbc f1_X0
  go_wp2_with fail
  go_ret
  exact Ans.ok A2.out ⟨C1.out.1.more (by omega) (by omega),C1.out.2⟩
theorem make_file (hW0 : Wk Rep) (path : ByteArray) (kind ino : Int) {xd xi xk xl xz xp er : Int} {xn : ByteArray} (hr : Rep w v s S D) (hl : Lim s) (h2 : s.rd.length ≤ 18000) (h3 : s.rg.length ≤ 900) (hx : Mxs w S) (hp : path.size ≤ 100000) (k0 : 0 ≤ kind) (k1 : kind ≤ 255) (i0 : 0 ≤ ino) (i1 : ino ≤ 4294967295) (hR : findM s.shown path = (⟨xd,xn,xi,⟨xk,xl,xz,xp⟩⟩,er)) (he : er = 0) (h0 : xi = 0) (hkd : kind = 1) :
 Calls Tryz.prog 43 #[v,.string path,.int .u8 kind,.int .u32 ino] w (Ans Rep v s 0 [saveP ino 1 1 0 0,hangP xd xn ino] 41 0 S D w) := by
 have A0 := hQ_ (At.start hr)
 have HX := hQ_ hx
 have HS := hQ_ hW0.stays
 have HWK := hQ_ hW0
 have HL := hQ_ hl
 have HRO := hQ_ room_calls
 have C0 := hQ_ (aft0 s)
 have HWT := hQ_ when_t
 have HWF := hQ_ when_f
 have HFI := hQ_ (fun w (S D : Nat → Prop) (t : Vs) (hr : Rep w v t S D) (hsm : Sm t s) hl h2 hx => find_c hW0 path hR hr hsm hl h2 hp hx)
 unfold FndC at HFI
 have HNW := hQ_ (fun w => NodeK.new_ok kind xd w k0 k1 (by have := (find_bd s.shown path).d0; rw [hR] at this; exact this) (by have := (find_bd s.shown path).d1; rw [hR] at this; exact this))
 have hsb := find_bd s.shown path
 rw [hR] at hsb
 obtain ⟨hd0,hd1,hi0,hi1,hn0⟩ := hsb
 dsimp only at hd0 hd1 hi0 hi1 hn0 HFI
 subst he
 have d1 : (xi != 0) = false := by simpa using h0
 unfold NodeL.newV at HNW
 rw [if_pos hkd] at HNW
 clear hr hl hp hR hx hW0 h0 hkd
 go_enter Tryz.func43,Tryz.ntmps43
 go_wp2_with fail
 refine (HFI.out _ _ _ _ A0.out.rep (Aft.sm0 C0.out.1) (lim_aft C0.out.1 HL.out (by omega) (by omega)) (by have := C0.out.1.rd; omega) (HX.out.at_ A0.out).1).mono ?_
 rintro e w1 ⟨s1,S1,D1,rfl,hr,st,hsm,hrd,hrg⟩
 have C1 := hQ_ (aftF C0.out hsm hrd hrg)
 have X1 := hQ_ (Blk.new_ w1 #[.int .u32 xd,.string xn,.int .u32 xi,.int .u8 xk,.int .u32 xl,.int .u32 xz,.int .u32 xp] 65)
 have hbn := bX_ X1.out
 have AQ := A0.out.step HS.out hr st
 have A1 := hQ_ (AQ.own HS.out hbn (Nat.le_refl w1.heap.size) (by simp))
 have f1_X0 := cC7 X1.out
 clear hr st hsm hrd hrg hbn AQ
 have FE2 : fst_ [0,0] = 0 := rfl
 have HF2 := hQ_ (first_2b (0) (0) (w1.alloc (.cells #[.int .u32 xd,.string xn,.int .u32 xi,.int .u8 xk,.int .u32 xl,.int .u32 xz,.int .u32 xp] 65)) (w1.heap.size + 1) (by simp))
 rw [FE2] at HF2
 clear FE2
 go_upto_region 2 with (fail)
 go_cut [11] (fun p wx => p = .int .i64 (0) ∧ BL_ (w1.alloc (.cells #[.int .u32 xd,.string xn,.int .u32 xi,.int .u8 xk,.int .u32 xl,.int .u32 xz,.int .u32 xp] 65)) wx)
 case first =>
  go_wp2_with (first | (go_at_call 72; (with_reducible refine (HWT.out _ _).mono ?_); rintro e w9 ⟨rfl,rfl⟩) | (go_at_call 72; (with_reducible refine (HWF.out _ _).mono ?_); rintro e w9 ⟨rfl,rfl⟩) | (go_at_call 71; (with_reducible refine HF2.out.1.mono ?_); rintro e w9 ⟨rfl,rfl⟩))
  all_goals
   go_meet
   exact fB_
 case rest =>
  obtain ⟨rfl,hbc⟩ := hcut
  have A2 := hQ_ (A1.out.below HS.out hbc)
  have X2 := hQ_ (X1.out.below hbc)
  skip
  have f2_X0 := cC7 X2.out
  clear hbc f1_X0
  go_wp2_with fail
  refine (HNW.out _).mono ?_
  rintro e w3 ⟨rfl,hbw⟩
  have hbn := nW_ hbw (.cells #[.int .u8 1,.int .u32 1,.int .u32 0,.int .u32 0] 59)
  have A3 := hQ_ (A2.out.own HS.out hbn hbw.size (by simp))
  have X3 := hQ_ (X2.out.below hbn)
  have I3 := hQ_ (Blk.new_ w3 #[.int .u8 1,.int .u32 1,.int .u32 0,.int .u32 0] 59)
  have f3_X0 := cC7 X3.out
  have f3_I0 := cC4 I3.out
  clear hbw hbn f2_X0
  go_wp2_with fail
  refine (save_w HWK.out ino 1 (1) 0 0 A3.out.rep (lim_aft C1.out.1 HL.out (by omega) (by omega)) (by omega) (by omega) ⟨by omega,by omega,by omega,by omega,by omega,by omega,by omega,by omega⟩).mono ?_
  intro e w4 hh
  rcases Wrote.split hh with ⟨s4,S4,D4,rfl,ho,hr,st,ha⟩ | ⟨s4,S4,D4,rfl,ho,hr,st,ha⟩
  ·obtain ⟨x1,x2⟩ := C1.out.1.app C1.out.2 ha
   have C4 := hQ_ (And.intro x1 (x2.trans ho))
   clear x1 x2 ho ha
   have A4 := hQ_ (A3.out.step HS.out hr st)
   have X4 := hQ_ (A3.out.blk HS.out X3.out (.inl (.inr rfl)) st)
   have I4 := hQ_ (A3.out.blk HS.out I3.out (.inr rfl) st)
   obtain ⟨f4_X0,f4_X1,f4_X2,f4_X3,f4_X4,f4_X5,f4_X6⟩ := cC7 X4.out
   obtain ⟨f4_I0,f4_I1,f4_I2,f4_I3⟩ := cC4 I4.out
   clear st hr f3_X0 f3_I0
   go_wp2_with fail
   refine (hang_w HWK.out xd xn ino A4.out.rep (lim_aft C4.out.1 HL.out (by omega) (by omega)) (by omega) (by omega) (by omega) (by omega) (by omega)).mono ?_
   intro e w5 hh
   rcases Wrote.split hh with ⟨s5,S5,D5,rfl,ho,hr,st,ha⟩ | ⟨s5,S5,D5,rfl,ho,hr,st,ha⟩
   ·obtain ⟨x1,x2⟩ := C4.out.1.app C4.out.2 ha
    have C5 := hQ_ (And.intro x1 (x2.trans ho))
    clear x1 x2 ho ha
    have A5 := hQ_ (A4.out.step HS.out hr st)
    have X5 := hQ_ (A4.out.blk HS.out X4.out (.inl (.inr rfl)) st)
    have I5 := hQ_ (A4.out.blk HS.out I4.out (.inr rfl) st)
    obtain ⟨f5_X0,f5_X1,f5_X2,f5_X3,f5_X4,f5_X5,f5_X6⟩ := cC7 X5.out
    obtain ⟨f5_I0,f5_I1,f5_I2,f5_I3⟩ := cC4 I5.out
    clear st hr f4_X0 f4_X1 f4_X2 f4_X3 f4_X4 f4_X5 f4_X6 f4_I0 f4_I1 f4_I2 f4_I3
    go_wp2_with (go_at_call 75; refine (HRO.out _ _).mono ?_; rintro e w9 ⟨rfl,rfl⟩)
    go_ret
    exact Ans.ok A5.out ⟨C5.out.1.more (by omega) (by omega),C5.out.2⟩
   ·obtain ⟨x1,x2⟩ := C4.out.1.app C4.out.2 ha
    have C5 := hQ_ (And.intro x1 (x2.trans ho))
    clear x1 x2 ho ha
    have A5 := hQ_ (A4.out.step HS.out hr st)
    have X5 := hQ_ (A4.out.blk HS.out X4.out (.inl (.inr rfl)) st)
    have I5 := hQ_ (A4.out.blk HS.out I4.out (.inr rfl) st)
    obtain ⟨f5_X0,f5_X1,f5_X2,f5_X3,f5_X4,f5_X5,f5_X6⟩ := cC7 X5.out
    obtain ⟨f5_I0,f5_I1,f5_I2,f5_I3⟩ := cC4 I5.out
    clear st hr f4_X0 f4_X1 f4_X2 f4_X3 f4_X4 f4_X5 f4_X6 f4_I0 f4_I1 f4_I2 f4_I3
    go_wp2_with (go_at_call 75; refine (HRO.out _ _).mono ?_; rintro e w9 ⟨rfl,rfl⟩)
    go_ret
    exact Ans.full A5.out ⟨(Aft.stop (qs := []) C5.out.1 C5.out.2).1.more (by omega) (by omega),(Aft.stop (qs := []) C5.out.1 C5.out.2).2⟩
  ·obtain ⟨x1,x2⟩ := C1.out.1.app C1.out.2 ha
   have C4 := hQ_ (And.intro x1 (x2.trans ho))
   clear x1 x2 ho ha
   have A4 := hQ_ (A3.out.step HS.out hr st)
   have X4 := hQ_ (A3.out.blk HS.out X3.out (.inl (.inr rfl)) st)
   have I4 := hQ_ (A3.out.blk HS.out I3.out (.inr rfl) st)
   obtain ⟨f4_X0,f4_X1,f4_X2,f4_X3,f4_X4,f4_X5,f4_X6⟩ := cC7 X4.out
   obtain ⟨f4_I0,f4_I1,f4_I2,f4_I3⟩ := cC4 I4.out
   clear st hr f3_X0 f3_I0
   go_wp2_with (go_at_call 75; refine (HRO.out _ _).mono ?_; rintro e w9 ⟨rfl,rfl⟩)
   go_ret
   exact Ans.full A4.out ⟨(Aft.stop (qs := [hangP xd xn ino]) C4.out.1 C4.out.2).1.more (by omega) (by omega),(Aft.stop (qs := [hangP xd xn ino]) C4.out.1 C4.out.2).2⟩
theorem make_dir (hW0 : Wk Rep) (path : ByteArray) (kind ino : Int) {xd xi xk xl xz xp er : Int} {xn : ByteArray} (hr : Rep w v s S D) (hl : Lim s) (h2 : s.rd.length ≤ 18000) (h3 : s.rg.length ≤ 900) (hx : Mxs w S) (hp : path.size ≤ 100000) (k0 : 0 ≤ kind) (k1 : kind ≤ 255) (i0 : 0 ≤ ino) (i1 : ino ≤ 4294967295) (hR : findM s.shown path = (⟨xd,xn,xi,⟨xk,xl,xz,xp⟩⟩,er)) (he : er = 0) (h0 : xi = 0) (hkd : kind ≠ 1) :
 Calls Tryz.prog 43 #[v,.string path,.int .u8 kind,.int .u32 ino] w (Ans Rep v s 0 [saveP ino 2 2 0 xd,hangP xd xn ino,tieP xd 1] 41 0 S D w) := by
 have A0 := hQ_ (At.start hr)
 have HX := hQ_ hx
 have HS := hQ_ hW0.stays
 have HWK := hQ_ hW0
 have HL := hQ_ hl
 have HRO := hQ_ room_calls
 have C0 := hQ_ (aft0 s)
 have HWT := hQ_ when_t
 have HWF := hQ_ when_f
 have HFI := hQ_ (fun w (S D : Nat → Prop) (t : Vs) (hr : Rep w v t S D) (hsm : Sm t s) hl h2 hx => find_c hW0 path hR hr hsm hl h2 hp hx)
 unfold FndC at HFI
 have HNW := hQ_ (fun w => NodeK.new_ok kind xd w k0 k1 (by have := (find_bd s.shown path).d0; rw [hR] at this; exact this) (by have := (find_bd s.shown path).d1; rw [hR] at this; exact this))
 have hsb := find_bd s.shown path
 rw [hR] at hsb
 obtain ⟨hd0,hd1,hi0,hi1,hn0⟩ := hsb
 dsimp only at hd0 hd1 hi0 hi1 hn0 HFI
 subst he
 have d1 : (xi != 0) = false := by simpa using h0
 unfold NodeL.newV at HNW
 rw [if_neg hkd] at HNW
 clear hr hl hp hR hx hW0 h0 hkd
 go_enter Tryz.func43,Tryz.ntmps43
 go_wp2_with fail
 refine (HFI.out _ _ _ _ A0.out.rep (Aft.sm0 C0.out.1) (lim_aft C0.out.1 HL.out (by omega) (by omega)) (by have := C0.out.1.rd; omega) (HX.out.at_ A0.out).1).mono ?_
 rintro e w1 ⟨s1,S1,D1,rfl,hr,st,hsm,hrd,hrg⟩
 have C1 := hQ_ (aftF C0.out hsm hrd hrg)
 have X1 := hQ_ (Blk.new_ w1 #[.int .u32 xd,.string xn,.int .u32 xi,.int .u8 xk,.int .u32 xl,.int .u32 xz,.int .u32 xp] 65)
 have hbn := bX_ X1.out
 have AQ := A0.out.step HS.out hr st
 have A1 := hQ_ (AQ.own HS.out hbn (Nat.le_refl w1.heap.size) (by simp))
 have f1_X0 := cC7 X1.out
 clear hr st hsm hrd hrg hbn AQ
 have FE2 : fst_ [0,0] = 0 := rfl
 have HF2 := hQ_ (first_2b (0) (0) (w1.alloc (.cells #[.int .u32 xd,.string xn,.int .u32 xi,.int .u8 xk,.int .u32 xl,.int .u32 xz,.int .u32 xp] 65)) (w1.heap.size + 1) (by simp))
 rw [FE2] at HF2
 clear FE2
 go_upto_region 2 with (fail)
 go_cut [11] (fun p wx => p = .int .i64 (0) ∧ BL_ (w1.alloc (.cells #[.int .u32 xd,.string xn,.int .u32 xi,.int .u8 xk,.int .u32 xl,.int .u32 xz,.int .u32 xp] 65)) wx)
 case first =>
  go_wp2_with (first | (go_at_call 72; (with_reducible refine (HWT.out _ _).mono ?_); rintro e w9 ⟨rfl,rfl⟩) | (go_at_call 72; (with_reducible refine (HWF.out _ _).mono ?_); rintro e w9 ⟨rfl,rfl⟩) | (go_at_call 71; (with_reducible refine HF2.out.1.mono ?_); rintro e w9 ⟨rfl,rfl⟩))
  all_goals
   go_meet
   exact fB_
 case rest =>
  obtain ⟨rfl,hbc⟩ := hcut
  have A2 := hQ_ (A1.out.below HS.out hbc)
  have X2 := hQ_ (X1.out.below hbc)
  skip
  have f2_X0 := cC7 X2.out
  clear hbc f1_X0
  go_wp2_with fail
  refine (HNW.out _).mono ?_
  rintro e w3 ⟨rfl,hbw⟩
  have hbn := nW_ hbw (.cells #[.int .u8 2,.int .u32 2,.int .u32 0,.int .u32 xd] 59)
  have A3 := hQ_ (A2.out.own HS.out hbn hbw.size (by simp))
  have X3 := hQ_ (X2.out.below hbn)
  have I3 := hQ_ (Blk.new_ w3 #[.int .u8 2,.int .u32 2,.int .u32 0,.int .u32 xd] 59)
  have f3_X0 := cC7 X3.out
  have f3_I0 := cC4 I3.out
  clear hbw hbn f2_X0
  go_wp2_with fail
  refine (save_w HWK.out ino 2 (2) 0 xd A3.out.rep (lim_aft C1.out.1 HL.out (by omega) (by omega)) (by omega) (by omega) ⟨by omega,by omega,by omega,by omega,by omega,by omega,by omega,by omega⟩).mono ?_
  intro e w4 hh
  rcases Wrote.split hh with ⟨s4,S4,D4,rfl,ho,hr,st,ha⟩ | ⟨s4,S4,D4,rfl,ho,hr,st,ha⟩
  ·obtain ⟨x1,x2⟩ := C1.out.1.app C1.out.2 ha
   have C4 := hQ_ (And.intro x1 (x2.trans ho))
   clear x1 x2 ho ha
   have A4 := hQ_ (A3.out.step HS.out hr st)
   have X4 := hQ_ (A3.out.blk HS.out X3.out (.inl (.inr rfl)) st)
   have I4 := hQ_ (A3.out.blk HS.out I3.out (.inr rfl) st)
   obtain ⟨f4_X0,f4_X1,f4_X2,f4_X3,f4_X4,f4_X5,f4_X6⟩ := cC7 X4.out
   obtain ⟨f4_I0,f4_I1,f4_I2,f4_I3⟩ := cC4 I4.out
   clear st hr f3_X0 f3_I0
   go_wp2_with fail
   refine (hang_w HWK.out xd xn ino A4.out.rep (lim_aft C4.out.1 HL.out (by omega) (by omega)) (by omega) (by omega) (by omega) (by omega) (by omega)).mono ?_
   intro e w5 hh
   rcases Wrote.split hh with ⟨s5,S5,D5,rfl,ho,hr,st,ha⟩ | ⟨s5,S5,D5,rfl,ho,hr,st,ha⟩
   ·obtain ⟨x1,x2⟩ := C4.out.1.app C4.out.2 ha
    have C5 := hQ_ (And.intro x1 (x2.trans ho))
    clear x1 x2 ho ha
    have A5 := hQ_ (A4.out.step HS.out hr st)
    have X5 := hQ_ (A4.out.blk HS.out X4.out (.inl (.inr rfl)) st)
    have I5 := hQ_ (A4.out.blk HS.out I4.out (.inr rfl) st)
    obtain ⟨f5_X0,f5_X1,f5_X2,f5_X3,f5_X4,f5_X5,f5_X6⟩ := cC7 X5.out
    obtain ⟨f5_I0,f5_I1,f5_I2,f5_I3⟩ := cC4 I5.out
    clear st hr f4_X0 f4_X1 f4_X2 f4_X3 f4_X4 f4_X5 f4_X6 f4_I0 f4_I1 f4_I2 f4_I3
    go_wp2_with fail
    refine (tie_calls HWK.out xd (1) A5.out.rep (lim_aft C5.out.1 HL.out (by omega) (by omega)) (by have := C5.out.1.rd; omega) (by omega) (by omega) (by omega) (by omega)).mono ?_
    intro e w6 hh
    rcases Wrote.split hh with ⟨s6,S6,D6,rfl,ho,hr,st,ha⟩ | ⟨s6,S6,D6,rfl,ho,hr,st,ha⟩
    ·obtain ⟨x1,x2⟩ := C5.out.1.app C5.out.2 ha
     have C6 := hQ_ (And.intro x1 (x2.trans ho))
     clear x1 x2 ho ha
     have A6 := hQ_ (A5.out.step HS.out hr st)
     have X6 := hQ_ (A5.out.blk HS.out X5.out (.inl (.inr rfl)) st)
     have I6 := hQ_ (A5.out.blk HS.out I5.out (.inr rfl) st)
     obtain ⟨f6_X0,f6_X1,f6_X2,f6_X3,f6_X4,f6_X5,f6_X6⟩ := cC7 X6.out
     obtain ⟨f6_I0,f6_I1,f6_I2,f6_I3⟩ := cC4 I6.out
     clear st hr f5_X0 f5_X1 f5_X2 f5_X3 f5_X4 f5_X5 f5_X6 f5_I0 f5_I1 f5_I2 f5_I3
     go_wp2_with (go_at_call 75; refine (HRO.out _ _).mono ?_; rintro e w9 ⟨rfl,rfl⟩)
     go_ret
     exact Ans.ok A6.out ⟨C6.out.1.more (by omega) (by omega),C6.out.2⟩
    ·obtain ⟨x1,x2⟩ := C5.out.1.app C5.out.2 ha
     have C6 := hQ_ (And.intro x1 (x2.trans ho))
     clear x1 x2 ho ha
     have A6 := hQ_ (A5.out.step HS.out hr st)
     have X6 := hQ_ (A5.out.blk HS.out X5.out (.inl (.inr rfl)) st)
     have I6 := hQ_ (A5.out.blk HS.out I5.out (.inr rfl) st)
     obtain ⟨f6_X0,f6_X1,f6_X2,f6_X3,f6_X4,f6_X5,f6_X6⟩ := cC7 X6.out
     obtain ⟨f6_I0,f6_I1,f6_I2,f6_I3⟩ := cC4 I6.out
     clear st hr f5_X0 f5_X1 f5_X2 f5_X3 f5_X4 f5_X5 f5_X6 f5_I0 f5_I1 f5_I2 f5_I3
     go_wp2_with (go_at_call 75; refine (HRO.out _ _).mono ?_; rintro e w9 ⟨rfl,rfl⟩)
     go_ret
     exact Ans.full A6.out ⟨(Aft.stop (qs := []) C6.out.1 C6.out.2).1.more (by omega) (by omega),(Aft.stop (qs := []) C6.out.1 C6.out.2).2⟩
   ·obtain ⟨x1,x2⟩ := C4.out.1.app C4.out.2 ha
    have C5 := hQ_ (And.intro x1 (x2.trans ho))
    clear x1 x2 ho ha
    have A5 := hQ_ (A4.out.step HS.out hr st)
    have X5 := hQ_ (A4.out.blk HS.out X4.out (.inl (.inr rfl)) st)
    have I5 := hQ_ (A4.out.blk HS.out I4.out (.inr rfl) st)
    obtain ⟨f5_X0,f5_X1,f5_X2,f5_X3,f5_X4,f5_X5,f5_X6⟩ := cC7 X5.out
    obtain ⟨f5_I0,f5_I1,f5_I2,f5_I3⟩ := cC4 I5.out
    clear st hr f4_X0 f4_X1 f4_X2 f4_X3 f4_X4 f4_X5 f4_X6 f4_I0 f4_I1 f4_I2 f4_I3
    go_wp2_with (go_at_call 75; refine (HRO.out _ _).mono ?_; rintro e w9 ⟨rfl,rfl⟩)
    go_ret
    exact Ans.full A5.out ⟨(Aft.stop (qs := [tieP xd (1)]) C5.out.1 C5.out.2).1.more (by omega) (by omega),(Aft.stop (qs := [tieP xd (1)]) C5.out.1 C5.out.2).2⟩
  ·obtain ⟨x1,x2⟩ := C1.out.1.app C1.out.2 ha
   have C4 := hQ_ (And.intro x1 (x2.trans ho))
   clear x1 x2 ho ha
   have A4 := hQ_ (A3.out.step HS.out hr st)
   have X4 := hQ_ (A3.out.blk HS.out X3.out (.inl (.inr rfl)) st)
   have I4 := hQ_ (A3.out.blk HS.out I3.out (.inr rfl) st)
   obtain ⟨f4_X0,f4_X1,f4_X2,f4_X3,f4_X4,f4_X5,f4_X6⟩ := cC7 X4.out
   obtain ⟨f4_I0,f4_I1,f4_I2,f4_I3⟩ := cC4 I4.out
   clear st hr f3_X0 f3_I0
   go_wp2_with (go_at_call 75; refine (HRO.out _ _).mono ?_; rintro e w9 ⟨rfl,rfl⟩)
   go_ret
   exact Ans.full A4.out ⟨(Aft.stop (qs := [hangP xd xn ino,tieP xd (1)]) C4.out.1 C4.out.2).1.more (by omega) (by omega),(Aft.stop (qs := [hangP xd xn ino,tieP xd (1)]) C4.out.1 C4.out.2).2⟩
theorem make_calls (hW0 : Wk Rep) (path : ByteArray) (kind ino : Int) (hr : Rep w v s S D) (hl : Lim s) (h2 : s.rd.length ≤ 18000) (h3 : s.rg.length ≤ 900) (hx : Mxs w S) (hp : path.size ≤ 100000) (k0 : 0 ≤ kind) (k1 : kind ≤ 255) (i0 : 0 ≤ ino) (i1 : ino ≤ 4294967295) :
 Calls Tryz.prog 43 #[v,.string path,.int .u8 kind,.int .u32 ino] w (Ans Rep v s (makV s.shown path kind ino).1 (makV s.shown path kind ino).2 41 0 S D w) := by
 unfold makV
 obtain ⟨⟨⟨xd,xn,xi,⟨xk,xl,xz,xp⟩⟩,er⟩,hR⟩ : ∃ R,findM s.shown path = R := ⟨_,rfl⟩
 have h := hR
 rw [hR]
 dsimp only
 by_cases he : er = 0
 ·rw [if_neg (fun h => h he)]
  by_cases h0 : xi = 0
  ·rw [if_neg (fun h => h h0)]
   by_cases hkd : kind = 1
   ·rw [if_pos hkd]
    exact make_file hW0 path kind ino hr hl h2 h3 hx hp k0 k1 i0 i1 h he h0 hkd
   ·rw [if_neg hkd]
    exact make_dir hW0 path kind ino hr hl h2 h3 hx hp k0 k1 i0 i1 h he h0 hkd
  ·rw [if_pos h0]
   exact make_there hW0 path kind ino hr hl h2 h3 hx hp k0 k1 i0 i1 h he h0
 ·rw [if_pos he]
  exact make_err hW0 path kind ino hr hl h2 h3 hx hp k0 k1 i0 i1 h he
end Go.Proofs.YtfalhnomhidkcaaGreatDoor.DirsKe
namespace Go.Proofs.YtfalhnomhidkcaaGreatDoor.DirsKf
open Go.RowKit
open Byte KeysM TreeM ViewM ViewKm NodeM NodeG NamesM NamesL WalkM WalkF WalkKm DirsV Lst Chg TreeL ViewL WalkL WalkV Vat WalkKa WalkKb DirsK DirsKa DirsKb DirsKc DirsKd
open Own hiding keeps
variable {Rep : RepT} {w : World} {v : Value} {s : Vs} {S D : Nat → Prop}
theorem first_2g (a b : Int) (w : World) (g : Nat) (hg : w.heap.size = g) : Calls Tryz.prog 71 #[.slice (some ⟨g,0,none⟩) 2 2] (w.alloc (.cells #[.int .i64 a,.int .i64 b] 66)) fun e w' => e = .returned (.int .i64 (fst_ [a,b])) ∧ (w.alloc (.cells #[.int .i64 a,.int .i64 b] 66)) = w' := by
 subst hg
 exact first_2 a b w
theorem first_3g (a b c : Int) (w : World) (g : Nat) (hg : w.heap.size = g) : Calls Tryz.prog 71 #[.slice (some ⟨g,0,none⟩) 3 3] (w.alloc (.cells #[.int .i64 a,.int .i64 b,.int .i64 c] 66)) fun e w' => e = .returned (.int .i64 (fst_ [a,b,c])) ∧ (w.alloc (.cells #[.int .i64 a,.int .i64 b,.int .i64 c] 66)) = w' := by
 subst hg
 exact first_3 a b c w
theorem first_2d (a b : Int) (w : World) (g : Nat) (hg : w.heap.size = g) : Calls Tryz.prog 71 #[.slice (some ⟨g,0,none⟩) 2 2] (w.alloc (.cells #[.int .i64 a,.int .i64 b] 66)).drew fun e w' => e = .returned (.int .i64 (fst_ [a,b])) ∧ (w.alloc (.cells #[.int .i64 a,.int .i64 b] 66)).drew = w' := by
 subst hg
 exact first_calls _ 2 2 [a,b] _ ((So.lit erE 66 w (base := w.heap.size) [a,b] #[.int .i64 a,.int .i64 b] 2 rfl rfl (Nat.le_refl _) (by decide)).sl.below ((Below.refl _ _).drew)) (by decide)
theorem first_2b (a b : Int) (w : World) (g : Nat) (hg : w.heap.size = g) : (Calls Tryz.prog 71 #[.slice (some ⟨g,0,none⟩) 2 2] (w.alloc (.cells #[.int .i64 a,.int .i64 b] 66)) fun e w' => e = .returned (.int .i64 (fst_ [a,b])) ∧ (w.alloc (.cells #[.int .i64 a,.int .i64 b] 66)) = w') ∧ (Calls Tryz.prog 71 #[.slice (some ⟨g,0,none⟩) 2 2] (w.alloc (.cells #[.int .i64 a,.int .i64 b] 66)).drew fun e w' => e = .returned (.int .i64 (fst_ [a,b])) ∧ (w.alloc (.cells #[.int .i64 a,.int .i64 b] 66)).drew = w') := ⟨first_2g a b w g hg,first_2d a b w g hg⟩
theorem first_3d (a b c : Int) (w : World) (g : Nat) (hg : w.heap.size = g) : Calls Tryz.prog 71 #[.slice (some ⟨g,0,none⟩) 3 3] (w.alloc (.cells #[.int .i64 a,.int .i64 b,.int .i64 c] 66)).drew fun e w' => e = .returned (.int .i64 (fst_ [a,b,c])) ∧ (w.alloc (.cells #[.int .i64 a,.int .i64 b,.int .i64 c] 66)).drew = w' := by
 subst hg
 exact first_calls _ 3 3 [a,b,c] _ ((So.lit erE 66 w (base := w.heap.size) [a,b,c] #[.int .i64 a,.int .i64 b,.int .i64 c] 3 rfl rfl (Nat.le_refl _) (by decide)).sl.below ((Below.refl _ _).drew)) (by decide)
theorem first_3b (a b c : Int) (w : World) (g : Nat) (hg : w.heap.size = g) : (Calls Tryz.prog 71 #[.slice (some ⟨g,0,none⟩) 3 3] (w.alloc (.cells #[.int .i64 a,.int .i64 b,.int .i64 c] 66)) fun e w' => e = .returned (.int .i64 (fst_ [a,b,c])) ∧ (w.alloc (.cells #[.int .i64 a,.int .i64 b,.int .i64 c] 66)) = w') ∧ (Calls Tryz.prog 71 #[.slice (some ⟨g,0,none⟩) 3 3] (w.alloc (.cells #[.int .i64 a,.int .i64 b,.int .i64 c] 66)).drew fun e w' => e = .returned (.int .i64 (fst_ [a,b,c])) ∧ (w.alloc (.cells #[.int .i64 a,.int .i64 b,.int .i64 c] 66)).drew = w') := ⟨first_3g a b c w g hg,first_3d a b c w g hg⟩
theorem rmd_err (hW0 : Wk Rep) (path : ByteArray) {xd xi xk xl xz xp er : Int} {xn : ByteArray} (hr : Rep w v s S D) (hl : Lim s) (h2 : s.rd.length ≤ 18000) (h3 : s.rg.length ≤ 900) (hx : Mxs w S) (hp : path.size ≤ 100000) (hR : findM s.shown path = (⟨xd,xn,xi,⟨xk,xl,xz,xp⟩⟩,er)) (hk : ∀ p ∈ s.shown,(sp p.key).letter ≠ 0) (he : er ≠ 0) :
 Calls Tryz.prog 45 #[v,.string path] w (Ans Rep v s er [] 41 1 S D w) := by
 have A0 := hQ_ (At.start hr)
 have HX := hQ_ hx
 have HS := hQ_ hW0.stays
 have HL := hQ_ hl
 have C0 := hQ_ (aft0 s)
 have HWT := hQ_ when_t
 have HWF := hQ_ when_f
 have HFI := hQ_ (fun w (S D : Nat → Prop) (t : Vs) (hr : Rep w v t S D) (hsm : Sm t s) hl h2 hx => find_c hW0 path hR hr hsm hl h2 hp hx)
 unfold FndC at HFI
 have hsbx := find_bd s.shown path
 have hibx := find_ib s.shown path
 rw [hR] at hsbx hibx
 obtain ⟨x0,x1,x2,x3,x4⟩ := hsbx
 dsimp only at x0 x1 x2 x3 x4 HFI hibx
 have d0 : (er != 0) = true := by simpa using he
 clear hr hl hp hR hx hW0 hk
 rcases (show (xi ≠ 1 ∧ xi ≠ 0) ∨ (xi ≠ 1 ∧ xi = 0) ∨ xi = 1 by omega) with h0 | h0 | h0
 ·have d1 : (xi == 1) = false := by simp; omega
  have d2 : (xi == 0) = false := by simp; omega
  clear h0
  go_enter Tryz.func45,Tryz.ntmps45
  go_wp2_with fail
  refine (HFI.out _ _ _ _ A0.out.rep (Aft.sm0 C0.out.1) (lim_aft C0.out.1 HL.out (by omega) (by omega)) (by have := C0.out.1.rd; omega) (HX.out.at_ A0.out).1).mono ?_
  rintro e w1 ⟨s1,S1,D1,rfl,hr,st,hsm,hrd,hrg⟩
  have C1 := hQ_ (aftF C0.out hsm hrd hrg)
  have X1 := hQ_ (Blk.new_ w1 #[.int .u32 xd,.string xn,.int .u32 xi,.int .u8 xk,.int .u32 xl,.int .u32 xz,.int .u32 xp] 65)
  have hbn := bX_ X1.out
  have AQ := A0.out.step HS.out hr st
  have A1 := hQ_ (AQ.own HS.out hbn (Nat.le_refl w1.heap.size) (by simp))
  have f1_X0 := cC7 X1.out
  clear hr st hsm hrd hrg hbn AQ
  have FE2 : fst_ [er,0,0] = er := by unfold fst_; rw [if_neg he]
  have HF2 := hQ_ (first_3b (er) (0) (0) (w1.alloc (.cells #[.int .u32 xd,.string xn,.int .u32 xi,.int .u8 xk,.int .u32 xl,.int .u32 xz,.int .u32 xp] 65)) (w1.heap.size + 1) (by simp))
  rw [FE2] at HF2
  clear FE2
  go_upto_region 2 with (fail)
  go_cut [7] (fun p wx => p = .int .i64 (er) ∧ BL_ (w1.alloc (.cells #[.int .u32 xd,.string xn,.int .u32 xi,.int .u8 xk,.int .u32 xl,.int .u32 xz,.int .u32 xp] 65)) wx)
  case first =>
   go_region_law (first | (go_simp; go_at_call 72; (with_reducible refine (HWT.out _ _).mono ?_); rintro e w9 ⟨rfl,rfl⟩) | (go_simp; go_at_call 72; (with_reducible refine (HWF.out _ _).mono ?_); rintro e w9 ⟨rfl,rfl⟩) | (go_simp; go_at_call 71; (first | (with_reducible refine HF2.out.1.mono ?_) | (with_reducible refine HF2.out.2.mono ?_)); rintro e w9 ⟨rfl,rfl⟩))
   all_goals
    go_wp2_with fail
    go_meet
    exact fB_
  case rest =>
   obtain ⟨rfl,hbc⟩ := hcut
   have A2 := hQ_ (A1.out.below HS.out hbc)
   have X2 := hQ_ (X1.out.below hbc)
   skip
   have f2_X0 := cC7 X2.out
   clear hbc f1_X0
   clear he
   go_wp2_with fail
   go_ret
   exact Ans.ok A2.out ⟨C1.out.1.more (by omega) (by omega),C1.out.2⟩
 ·have d1 : (xi == 1) = false := by simp; omega
  have d2 : (xi == 0) = true := by simp; omega
  clear h0
  go_enter Tryz.func45,Tryz.ntmps45
  go_wp2_with fail
  refine (HFI.out _ _ _ _ A0.out.rep (Aft.sm0 C0.out.1) (lim_aft C0.out.1 HL.out (by omega) (by omega)) (by have := C0.out.1.rd; omega) (HX.out.at_ A0.out).1).mono ?_
  rintro e w3 ⟨s3,S3,D3,rfl,hr,st,hsm,hrd,hrg⟩
  have C3 := hQ_ (aftF C0.out hsm hrd hrg)
  have X3 := hQ_ (Blk.new_ w3 #[.int .u32 xd,.string xn,.int .u32 xi,.int .u8 xk,.int .u32 xl,.int .u32 xz,.int .u32 xp] 65)
  have hbn := bX_ X3.out
  have AQ := A0.out.step HS.out hr st
  have A3 := hQ_ (AQ.own HS.out hbn (Nat.le_refl w3.heap.size) (by simp))
  have f3_X0 := cC7 X3.out
  clear hr st hsm hrd hrg hbn AQ
  have FE4 : fst_ [er,0,10] = er := by unfold fst_; rw [if_neg he]
  have HF4 := hQ_ (first_3b (er) (0) (10) (w3.alloc (.cells #[.int .u32 xd,.string xn,.int .u32 xi,.int .u8 xk,.int .u32 xl,.int .u32 xz,.int .u32 xp] 65)) (w3.heap.size + 1) (by simp))
  rw [FE4] at HF4
  clear FE4
  go_upto_region 2 with (fail)
  go_cut [7] (fun p wx => p = .int .i64 (er) ∧ BL_ (w3.alloc (.cells #[.int .u32 xd,.string xn,.int .u32 xi,.int .u8 xk,.int .u32 xl,.int .u32 xz,.int .u32 xp] 65)) wx)
  case first =>
   go_region_law (first | (go_simp; go_at_call 72; (with_reducible refine (HWT.out _ _).mono ?_); rintro e w9 ⟨rfl,rfl⟩) | (go_simp; go_at_call 72; (with_reducible refine (HWF.out _ _).mono ?_); rintro e w9 ⟨rfl,rfl⟩) | (go_simp; go_at_call 71; (first | (with_reducible refine HF4.out.1.mono ?_) | (with_reducible refine HF4.out.2.mono ?_)); rintro e w9 ⟨rfl,rfl⟩))
   all_goals
    go_wp2_with fail
    go_meet
    exact fB_
  case rest =>
   obtain ⟨rfl,hbc⟩ := hcut
   have A4 := hQ_ (A3.out.below HS.out hbc)
   have X4 := hQ_ (X3.out.below hbc)
   skip
   have f4_X0 := cC7 X4.out
   clear hbc f3_X0
   clear he
   go_wp2_with fail
   go_ret
   exact Ans.ok A4.out ⟨C3.out.1.more (by omega) (by omega),C3.out.2⟩
 ·have d1 : (xi == 1) = true := by simp; omega
  have d2 : (xi == 0) = false := by simp; omega
  clear h0
  go_enter Tryz.func45,Tryz.ntmps45
  go_wp2_with fail
  refine (HFI.out _ _ _ _ A0.out.rep (Aft.sm0 C0.out.1) (lim_aft C0.out.1 HL.out (by omega) (by omega)) (by have := C0.out.1.rd; omega) (HX.out.at_ A0.out).1).mono ?_
  rintro e w5 ⟨s5,S5,D5,rfl,hr,st,hsm,hrd,hrg⟩
  have C5 := hQ_ (aftF C0.out hsm hrd hrg)
  have X5 := hQ_ (Blk.new_ w5 #[.int .u32 xd,.string xn,.int .u32 xi,.int .u8 xk,.int .u32 xl,.int .u32 xz,.int .u32 xp] 65)
  have hbn := bX_ X5.out
  have AQ := A0.out.step HS.out hr st
  have A5 := hQ_ (AQ.own HS.out hbn (Nat.le_refl w5.heap.size) (by simp))
  have f5_X0 := cC7 X5.out
  clear hr st hsm hrd hrg hbn AQ
  have FE6 : fst_ [er,29,0] = er := by unfold fst_; rw [if_neg he]
  have HF6 := hQ_ (first_3b (er) (29) (0) (w5.alloc (.cells #[.int .u32 xd,.string xn,.int .u32 xi,.int .u8 xk,.int .u32 xl,.int .u32 xz,.int .u32 xp] 65)) (w5.heap.size + 1) (by simp))
  rw [FE6] at HF6
  clear FE6
  go_upto_region 2 with (fail)
  go_cut [7] (fun p wx => p = .int .i64 (er) ∧ BL_ (w5.alloc (.cells #[.int .u32 xd,.string xn,.int .u32 xi,.int .u8 xk,.int .u32 xl,.int .u32 xz,.int .u32 xp] 65)) wx)
  case first =>
   go_region_law (first | (go_simp; go_at_call 72; (with_reducible refine (HWT.out _ _).mono ?_); rintro e w9 ⟨rfl,rfl⟩) | (go_simp; go_at_call 72; (with_reducible refine (HWF.out _ _).mono ?_); rintro e w9 ⟨rfl,rfl⟩) | (go_simp; go_at_call 71; (first | (with_reducible refine HF6.out.1.mono ?_) | (with_reducible refine HF6.out.2.mono ?_)); rintro e w9 ⟨rfl,rfl⟩))
   all_goals
    go_wp2_with fail
    go_meet
    exact fB_
  case rest =>
   obtain ⟨rfl,hbc⟩ := hcut
   have A6 := hQ_ (A5.out.below HS.out hbc)
   have X6 := hQ_ (X5.out.below hbc)
   skip
   have f6_X0 := cC7 X6.out
   clear hbc f5_X0
   clear he
   go_wp2_with fail
   go_ret
   exact Ans.ok A6.out ⟨C5.out.1.more (by omega) (by omega),C5.out.2⟩
theorem rmd_root (hW0 : Wk Rep) (path : ByteArray) {xd xi xk xl xz xp er : Int} {xn : ByteArray} (hr : Rep w v s S D) (hl : Lim s) (h2 : s.rd.length ≤ 18000) (h3 : s.rg.length ≤ 900) (hx : Mxs w S) (hp : path.size ≤ 100000) (hR : findM s.shown path = (⟨xd,xn,xi,⟨xk,xl,xz,xp⟩⟩,er)) (hk : ∀ p ∈ s.shown,(sp p.key).letter ≠ 0) (he : er = 0) (h1 : xi = 1) :
 Calls Tryz.prog 45 #[v,.string path] w (Ans Rep v s 29 [] 41 1 S D w) := by
 have A0 := hQ_ (At.start hr)
 have HX := hQ_ hx
 have HS := hQ_ hW0.stays
 have HL := hQ_ hl
 have C0 := hQ_ (aft0 s)
 have HWT := hQ_ when_t
 have HWF := hQ_ when_f
 have HFI := hQ_ (fun w (S D : Nat → Prop) (t : Vs) (hr : Rep w v t S D) (hsm : Sm t s) hl h2 hx => find_c hW0 path hR hr hsm hl h2 hp hx)
 unfold FndC at HFI
 have hsbx := find_bd s.shown path
 have hibx := find_ib s.shown path
 rw [hR] at hsbx hibx
 obtain ⟨x0,x1,x2,x3,x4⟩ := hsbx
 dsimp only at x0 x1 x2 x3 x4 HFI hibx
 subst he
 have d1 : (xi == 1) = true := by simpa using h1
 have d2 : (xi == 0) = false := by simp; omega
 clear hr hl hp hR hx hW0 hk h1
 go_enter Tryz.func45,Tryz.ntmps45
 go_wp2_with fail
 refine (HFI.out _ _ _ _ A0.out.rep (Aft.sm0 C0.out.1) (lim_aft C0.out.1 HL.out (by omega) (by omega)) (by have := C0.out.1.rd; omega) (HX.out.at_ A0.out).1).mono ?_
 rintro e w1 ⟨s1,S1,D1,rfl,hr,st,hsm,hrd,hrg⟩
 have C1 := hQ_ (aftF C0.out hsm hrd hrg)
 have X1 := hQ_ (Blk.new_ w1 #[.int .u32 xd,.string xn,.int .u32 xi,.int .u8 xk,.int .u32 xl,.int .u32 xz,.int .u32 xp] 65)
 have hbn := bX_ X1.out
 have AQ := A0.out.step HS.out hr st
 have A1 := hQ_ (AQ.own HS.out hbn (Nat.le_refl w1.heap.size) (by simp))
 have f1_X0 := cC7 X1.out
 clear hr st hsm hrd hrg hbn AQ
 have FE2 : fst_ [0,29,0] = 29 := rfl
 have HF2 := hQ_ (first_3b (0) (29) (0) (w1.alloc (.cells #[.int .u32 xd,.string xn,.int .u32 xi,.int .u8 xk,.int .u32 xl,.int .u32 xz,.int .u32 xp] 65)) (w1.heap.size + 1) (by simp))
 rw [FE2] at HF2
 clear FE2
 go_upto_region 2 with (fail)
 go_cut [7] (fun p wx => p = .int .i64 (29) ∧ BL_ (w1.alloc (.cells #[.int .u32 xd,.string xn,.int .u32 xi,.int .u8 xk,.int .u32 xl,.int .u32 xz,.int .u32 xp] 65)) wx)
 case first =>
  go_region_law (first | (go_simp; go_at_call 72; (with_reducible refine (HWT.out _ _).mono ?_); rintro e w9 ⟨rfl,rfl⟩) | (go_simp; go_at_call 72; (with_reducible refine (HWF.out _ _).mono ?_); rintro e w9 ⟨rfl,rfl⟩) | (go_simp; go_at_call 71; (first | (with_reducible refine HF2.out.1.mono ?_) | (with_reducible refine HF2.out.2.mono ?_)); rintro e w9 ⟨rfl,rfl⟩))
  all_goals
   go_wp2_with fail
   go_meet
   exact fB_
 case rest =>
  obtain ⟨rfl,hbc⟩ := hcut
  have A2 := hQ_ (A1.out.below HS.out hbc)
  have X2 := hQ_ (X1.out.below hbc)
  skip
  have f2_X0 := cC7 X2.out
  clear hbc f1_X0
  go_wp2_with fail
  go_ret
  exact Ans.ok A2.out ⟨C1.out.1.more (by omega) (by omega),C1.out.2⟩
theorem rmd_none (hW0 : Wk Rep) (path : ByteArray) {xd xi xk xl xz xp er : Int} {xn : ByteArray} (hr : Rep w v s S D) (hl : Lim s) (h2 : s.rd.length ≤ 18000) (h3 : s.rg.length ≤ 900) (hx : Mxs w S) (hp : path.size ≤ 100000) (hR : findM s.shown path = (⟨xd,xn,xi,⟨xk,xl,xz,xp⟩⟩,er)) (hk : ∀ p ∈ s.shown,(sp p.key).letter ≠ 0) (he : er = 0) (h0 : xi = 0) :
 Calls Tryz.prog 45 #[v,.string path] w (Ans Rep v s 10 [] 41 1 S D w) := by
 have A0 := hQ_ (At.start hr)
 have HX := hQ_ hx
 have HS := hQ_ hW0.stays
 have HL := hQ_ hl
 have C0 := hQ_ (aft0 s)
 have HWT := hQ_ when_t
 have HWF := hQ_ when_f
 have HFI := hQ_ (fun w (S D : Nat → Prop) (t : Vs) (hr : Rep w v t S D) (hsm : Sm t s) hl h2 hx => find_c hW0 path hR hr hsm hl h2 hp hx)
 unfold FndC at HFI
 have hsbx := find_bd s.shown path
 have hibx := find_ib s.shown path
 rw [hR] at hsbx hibx
 obtain ⟨x0,x1,x2,x3,x4⟩ := hsbx
 dsimp only at x0 x1 x2 x3 x4 HFI hibx
 subst he
 have d1 : (xi == 1) = false := by simp; omega
 have d2 : (xi == 0) = true := by simpa using h0
 clear hr hl hp hR hx hW0 hk h0
 go_enter Tryz.func45,Tryz.ntmps45
 go_wp2_with fail
 refine (HFI.out _ _ _ _ A0.out.rep (Aft.sm0 C0.out.1) (lim_aft C0.out.1 HL.out (by omega) (by omega)) (by have := C0.out.1.rd; omega) (HX.out.at_ A0.out).1).mono ?_
 rintro e w1 ⟨s1,S1,D1,rfl,hr,st,hsm,hrd,hrg⟩
 have C1 := hQ_ (aftF C0.out hsm hrd hrg)
 have X1 := hQ_ (Blk.new_ w1 #[.int .u32 xd,.string xn,.int .u32 xi,.int .u8 xk,.int .u32 xl,.int .u32 xz,.int .u32 xp] 65)
 have hbn := bX_ X1.out
 have AQ := A0.out.step HS.out hr st
 have A1 := hQ_ (AQ.own HS.out hbn (Nat.le_refl w1.heap.size) (by simp))
 have f1_X0 := cC7 X1.out
 clear hr st hsm hrd hrg hbn AQ
 have FE2 : fst_ [0,0,10] = 10 := rfl
 have HF2 := hQ_ (first_3b (0) (0) (10) (w1.alloc (.cells #[.int .u32 xd,.string xn,.int .u32 xi,.int .u8 xk,.int .u32 xl,.int .u32 xz,.int .u32 xp] 65)) (w1.heap.size + 1) (by simp))
 rw [FE2] at HF2
 clear FE2
 go_upto_region 2 with (fail)
 go_cut [7] (fun p wx => p = .int .i64 (10) ∧ BL_ (w1.alloc (.cells #[.int .u32 xd,.string xn,.int .u32 xi,.int .u8 xk,.int .u32 xl,.int .u32 xz,.int .u32 xp] 65)) wx)
 case first =>
  go_region_law (first | (go_simp; go_at_call 72; (with_reducible refine (HWT.out _ _).mono ?_); rintro e w9 ⟨rfl,rfl⟩) | (go_simp; go_at_call 72; (with_reducible refine (HWF.out _ _).mono ?_); rintro e w9 ⟨rfl,rfl⟩) | (go_simp; go_at_call 71; (first | (with_reducible refine HF2.out.1.mono ?_) | (with_reducible refine HF2.out.2.mono ?_)); rintro e w9 ⟨rfl,rfl⟩))
  all_goals
   go_wp2_with fail
   go_meet
   exact fB_
 case rest =>
  obtain ⟨rfl,hbc⟩ := hcut
  have A2 := hQ_ (A1.out.below HS.out hbc)
  have X2 := hQ_ (X1.out.below hbc)
  skip
  have f2_X0 := cC7 X2.out
  clear hbc f1_X0
  go_wp2_with fail
  go_ret
  exact Ans.ok A2.out ⟨C1.out.1.more (by omega) (by omega),C1.out.2⟩
theorem rmd_there (hW0 : Wk Rep) (path : ByteArray) {xd xi xk xl xz xp er : Int} {xn : ByteArray} (hr : Rep w v s S D) (hl : Lim s) (h2 : s.rd.length ≤ 18000) (h3 : s.rg.length ≤ 900) (hx : Mxs w S) (hp : path.size ≤ 100000) (hR : findM s.shown path = (⟨xd,xn,xi,⟨xk,xl,xz,xp⟩⟩,er)) (hk : ∀ p ∈ s.shown,(sp p.key).letter ≠ 0) (he : er = 0) (h0 : xi ≠ 0) (h1 : xi ≠ 1) :
 Calls Tryz.prog 45 #[v,.string path] w (Ans Rep v s (remV s.shown ⟨xd,xn,xi,⟨xk,xl,xz,xp⟩⟩).1 (remV s.shown ⟨xd,xn,xi,⟨xk,xl,xz,xp⟩⟩).2 41 1 S D w) := by
 have A0 := hQ_ (At.start hr)
 have HX := hQ_ hx
 have HS := hQ_ hW0.stays
 have HL := hQ_ hl
 have C0 := hQ_ (aft0 s)
 have HWT := hQ_ when_t
 have HWF := hQ_ when_f
 have HFI := hQ_ (fun w (S D : Nat → Prop) (t : Vs) (hr : Rep w v t S D) (hsm : Sm t s) hl h2 hx => find_c hW0 path hR hr hsm hl h2 hp hx)
 unfold FndC at HFI
 have hsbx := find_bd s.shown path
 have hibx := find_ib s.shown path
 rw [hR] at hsbx hibx
 obtain ⟨x0,x1,x2,x3,x4⟩ := hsbx
 dsimp only at x0 x1 x2 x3 x4 HFI hibx
 subst he
 have d1 : (xi == 1) = false := by simpa using h1
 have d2 : (xi == 0) = false := by simpa using h0
 have HC := hQ_ (fun w (S D : Nat → Prop) (t : Vs) (hr : Rep w v t S D) (hsm : Sm t s) hl h2 h3 => show Calls _ _ _ _ (Ans Rep v t (remV s.shown ⟨xd,xn,xi,⟨xk,xl,xz,xp⟩⟩).1 (remV s.shown ⟨xd,xn,xi,⟨xk,xl,xz,xp⟩⟩).2 1 1 S D w) by rw [← hsm.shown]; exact remove_calls hW0 xd xi xk xl xz xp xn hr hl h2 h3 x0 x1 x2 x3 (by omega) (by rw [hsm.shown]; exact hk))
 obtain ⟨⟨rx,ps⟩,hrx⟩ : ∃ r,remV s.shown ⟨xd,xn,xi,⟨xk,xl,xz,xp⟩⟩ = r := ⟨_,rfl⟩
 rw [hrx] at HC ⊢
 dsimp only at HC ⊢
 clear hrx h0 h1
 clear hr hl hp hR hx hW0 hk
 go_enter Tryz.func45,Tryz.ntmps45
 go_wp2_with fail
 refine (HFI.out _ _ _ _ A0.out.rep (Aft.sm0 C0.out.1) (lim_aft C0.out.1 HL.out (by omega) (by omega)) (by have := C0.out.1.rd; omega) (HX.out.at_ A0.out).1).mono ?_
 rintro e w1 ⟨s1,S1,D1,rfl,hr,st,hsm,hrd,hrg⟩
 have C1 := hQ_ (aftF C0.out hsm hrd hrg)
 have X1 := hQ_ (Blk.new_ w1 #[.int .u32 xd,.string xn,.int .u32 xi,.int .u8 xk,.int .u32 xl,.int .u32 xz,.int .u32 xp] 65)
 have hbn := bX_ X1.out
 have AQ := A0.out.step HS.out hr st
 have A1 := hQ_ (AQ.own HS.out hbn (Nat.le_refl w1.heap.size) (by simp))
 have f1_X0 := cC7 X1.out
 clear hr st hsm hrd hrg hbn AQ
 have FE2 : fst_ [0,0,0] = 0 := rfl
 have HF2 := hQ_ (first_3b (0) (0) (0) (w1.alloc (.cells #[.int .u32 xd,.string xn,.int .u32 xi,.int .u8 xk,.int .u32 xl,.int .u32 xz,.int .u32 xp] 65)) (w1.heap.size + 1) (by simp))
 rw [FE2] at HF2
 clear FE2
 go_upto_region 2 with (fail)
 go_cut [7] (fun p wx => p = .int .i64 (0) ∧ BL_ (w1.alloc (.cells #[.int .u32 xd,.string xn,.int .u32 xi,.int .u8 xk,.int .u32 xl,.int .u32 xz,.int .u32 xp] 65)) wx)
 case first =>
  go_region_law (first | (go_simp; go_at_call 72; (with_reducible refine (HWT.out _ _).mono ?_); rintro e w9 ⟨rfl,rfl⟩) | (go_simp; go_at_call 72; (with_reducible refine (HWF.out _ _).mono ?_); rintro e w9 ⟨rfl,rfl⟩) | (go_simp; go_at_call 71; (first | (with_reducible refine HF2.out.1.mono ?_) | (with_reducible refine HF2.out.2.mono ?_)); rintro e w9 ⟨rfl,rfl⟩))
  all_goals
   go_wp2_with fail
   go_meet
   exact fB_
 case rest =>
  obtain ⟨rfl,hbc⟩ := hcut
  have A2 := hQ_ (A1.out.below HS.out hbc)
  have X2 := hQ_ (X1.out.below hbc)
  skip
  have f2_X0 := cC7 X2.out
  clear hbc f1_X0
  go_wp2_with fail
  refine (HC.out _ _ _ _ A2.out.rep (Aft.sm0 C1.out.1) (lim_aft C1.out.1 HL.out (by omega) (by omega)) (by have := C1.out.1.rd; omega) (by have := C1.out.1.rg; omega)).mono ?_
  intro e w3 hh
  rcases Ans.split hh with ⟨s3,S3,D3,rfl,ho,hr,st,ha⟩ | ⟨s3,S3,D3,rfl,ho,hr,st,ha⟩
  ·have A3 := hQ_ (A2.out.step HS.out hr st)
   have C3 := hQ_ (Aft.thru C1.out (And.intro ha ho))
   clear hr st ha ho
   go_wp2_with fail
   go_ret
   exact Ans.ok A3.out ⟨C3.out.1.more (by omega) (by omega),C3.out.2⟩
  ·have A3 := hQ_ (A2.out.step HS.out hr st)
   have C3 := hQ_ (Aft.thru C1.out (And.intro ha ho))
   clear hr st ha ho
   go_wp2_with fail
   go_ret
   exact Ans.full A3.out ⟨C3.out.1.more (by omega) (by omega),C3.out.2⟩
theorem rmd_calls (hW0 : Wk Rep) (path : ByteArray) (hr : Rep w v s S D) (hl : Lim s) (h2 : s.rd.length ≤ 18000) (h3 : s.rg.length ≤ 900) (hx : Mxs w S) (hp : path.size ≤ 100000) (hk : ∀ p ∈ s.shown,(sp p.key).letter ≠ 0) :
 Calls Tryz.prog 45 #[v,.string path] w (Ans Rep v s (rmdV s.shown path).1 (rmdV s.shown path).2 41 1 S D w) := by
 unfold rmdV
 obtain ⟨⟨⟨xd,xn,xi,⟨xk,xl,xz,xp⟩⟩,er⟩,hR⟩ : ∃ R,findM s.shown path = R := ⟨_,rfl⟩
 have h := hR
 rw [hR]
 dsimp only
 by_cases he : er = 0
 ·rw [if_neg (fun h => h he)]
  by_cases h1 : xi = 1
  ·rw [if_pos h1]
   exact rmd_root hW0 path hr hl h2 h3 hx hp h hk he h1
  ·rw [if_neg h1]
   by_cases h0 : xi = 0
   ·rw [if_pos h0]
    exact rmd_none hW0 path hr hl h2 h3 hx hp h hk he h0
   ·rw [if_neg h0]
    exact rmd_there hW0 path hr hl h2 h3 hx hp h hk he h0 h1
 ·rw [if_pos he]
  exact rmd_err hW0 path hr hl h2 h3 hx hp h hk he
theorem ulk_err (hW0 : Wk Rep) (path : ByteArray) {xd xi xk xl xz xp er : Int} {xn : ByteArray} (hr : Rep w v s S D) (hl : Lim s) (h2 : s.rd.length ≤ 18000) (h3 : s.rg.length ≤ 900) (hx : Mxs w S) (hp : path.size ≤ 100000) (hR : findM s.shown path = (⟨xd,xn,xi,⟨xk,xl,xz,xp⟩⟩,er)) (hk : ∀ p ∈ s.shown,(sp p.key).letter ≠ 0) (hnb : ∀ p ∈ s.shown,∀ i,blkB i p = false) (he : er ≠ 0) :
 Calls Tryz.prog 32 #[v,.string path] w (Ans Rep v s er [] 41 1 S D w) := by
 have A0 := hQ_ (At.start hr)
 have HX := hQ_ hx
 have HS := hQ_ hW0.stays
 have HL := hQ_ hl
 have C0 := hQ_ (aft0 s)
 have HWT := hQ_ when_t
 have HWF := hQ_ when_f
 have HFI := hQ_ (fun w (S D : Nat → Prop) (t : Vs) (hr : Rep w v t S D) (hsm : Sm t s) hl h2 hx => find_c hW0 path hR hr hsm hl h2 hp hx)
 unfold FndC at HFI
 have hsbx := find_bd s.shown path
 have hibx := find_ib s.shown path
 rw [hR] at hsbx hibx
 obtain ⟨x0,x1,x2,x3,x4⟩ := hsbx
 dsimp only at x0 x1 x2 x3 x4 HFI hibx
 have d0 : (er != 0) = true := by simpa using he
 clear hr hl hp hR hx hW0 hk hnb
 rcases (show xi ≠ 0 ∨ xi = 0 by omega) with h0 | h0
 ·have d2 : (xi == 0) = false := by simp; omega
  clear h0
  go_enter Tryz.func32,Tryz.ntmps32
  go_wp2_with fail
  refine (HFI.out _ _ _ _ A0.out.rep (Aft.sm0 C0.out.1) (lim_aft C0.out.1 HL.out (by omega) (by omega)) (by have := C0.out.1.rd; omega) (HX.out.at_ A0.out).1).mono ?_
  rintro e w1 ⟨s1,S1,D1,rfl,hr,st,hsm,hrd,hrg⟩
  have C1 := hQ_ (aftF C0.out hsm hrd hrg)
  have X1 := hQ_ (Blk.new_ w1 #[.int .u32 xd,.string xn,.int .u32 xi,.int .u8 xk,.int .u32 xl,.int .u32 xz,.int .u32 xp] 65)
  have hbn := bX_ X1.out
  have AQ := A0.out.step HS.out hr st
  have A1 := hQ_ (AQ.own HS.out hbn (Nat.le_refl w1.heap.size) (by simp))
  have f1_X0 := cC7 X1.out
  clear hr st hsm hrd hrg hbn AQ
  have FE2 : fst_ [er,0] = er := by unfold fst_; rw [if_neg he]
  have HF2 := hQ_ (first_2b (er) (0) (w1.alloc (.cells #[.int .u32 xd,.string xn,.int .u32 xi,.int .u8 xk,.int .u32 xl,.int .u32 xz,.int .u32 xp] 65)) (w1.heap.size + 1) (by simp))
  rw [FE2] at HF2
  clear FE2
  go_upto_region 2 with (fail)
  go_cut [7] (fun p wx => p = .int .i64 (er) ∧ BL_ (w1.alloc (.cells #[.int .u32 xd,.string xn,.int .u32 xi,.int .u8 xk,.int .u32 xl,.int .u32 xz,.int .u32 xp] 65)) wx)
  case first =>
   go_wp2_with (first | (go_at_call 72; (with_reducible refine (HWT.out _ _).mono ?_); rintro e w9 ⟨rfl,rfl⟩) | (go_at_call 72; (with_reducible refine (HWF.out _ _).mono ?_); rintro e w9 ⟨rfl,rfl⟩) | (go_at_call 71; (with_reducible refine HF2.out.1.mono ?_); rintro e w9 ⟨rfl,rfl⟩))
   all_goals
    go_meet
    exact fB_
  case rest =>
   obtain ⟨rfl,hbc⟩ := hcut
   have A2 := hQ_ (A1.out.below HS.out hbc)
   have X2 := hQ_ (X1.out.below hbc)
   skip
   have f2_X0 := cC7 X2.out
   clear hbc f1_X0
   clear he
   go_wp2_with fail
   go_ret
   exact Ans.ok A2.out ⟨C1.out.1.more (by omega) (by omega),C1.out.2⟩
 ·have d2 : (xi == 0) = true := by simp; omega
  clear h0
  go_enter Tryz.func32,Tryz.ntmps32
  go_wp2_with fail
  refine (HFI.out _ _ _ _ A0.out.rep (Aft.sm0 C0.out.1) (lim_aft C0.out.1 HL.out (by omega) (by omega)) (by have := C0.out.1.rd; omega) (HX.out.at_ A0.out).1).mono ?_
  rintro e w3 ⟨s3,S3,D3,rfl,hr,st,hsm,hrd,hrg⟩
  have C3 := hQ_ (aftF C0.out hsm hrd hrg)
  have X3 := hQ_ (Blk.new_ w3 #[.int .u32 xd,.string xn,.int .u32 xi,.int .u8 xk,.int .u32 xl,.int .u32 xz,.int .u32 xp] 65)
  have hbn := bX_ X3.out
  have AQ := A0.out.step HS.out hr st
  have A3 := hQ_ (AQ.own HS.out hbn (Nat.le_refl w3.heap.size) (by simp))
  have f3_X0 := cC7 X3.out
  clear hr st hsm hrd hrg hbn AQ
  have FE4 : fst_ [er,10] = er := by unfold fst_; rw [if_neg he]
  have HF4 := hQ_ (first_2b (er) (10) (w3.alloc (.cells #[.int .u32 xd,.string xn,.int .u32 xi,.int .u8 xk,.int .u32 xl,.int .u32 xz,.int .u32 xp] 65)) (w3.heap.size + 1) (by simp))
  rw [FE4] at HF4
  clear FE4
  go_upto_region 2 with (fail)
  go_cut [7] (fun p wx => p = .int .i64 (er) ∧ BL_ (w3.alloc (.cells #[.int .u32 xd,.string xn,.int .u32 xi,.int .u8 xk,.int .u32 xl,.int .u32 xz,.int .u32 xp] 65)) wx)
  case first =>
   go_wp2_with (first | (go_at_call 72; (with_reducible refine (HWT.out _ _).mono ?_); rintro e w9 ⟨rfl,rfl⟩) | (go_at_call 72; (with_reducible refine (HWF.out _ _).mono ?_); rintro e w9 ⟨rfl,rfl⟩) | (go_at_call 71; (with_reducible refine HF4.out.1.mono ?_); rintro e w9 ⟨rfl,rfl⟩))
   all_goals
    go_meet
    exact fB_
  case rest =>
   obtain ⟨rfl,hbc⟩ := hcut
   have A4 := hQ_ (A3.out.below HS.out hbc)
   have X4 := hQ_ (X3.out.below hbc)
   skip
   have f4_X0 := cC7 X4.out
   clear hbc f3_X0
   clear he
   go_wp2_with fail
   go_ret
   exact Ans.ok A4.out ⟨C3.out.1.more (by omega) (by omega),C3.out.2⟩
theorem ulk_none (hW0 : Wk Rep) (path : ByteArray) {xd xi xk xl xz xp er : Int} {xn : ByteArray} (hr : Rep w v s S D) (hl : Lim s) (h2 : s.rd.length ≤ 18000) (h3 : s.rg.length ≤ 900) (hx : Mxs w S) (hp : path.size ≤ 100000) (hR : findM s.shown path = (⟨xd,xn,xi,⟨xk,xl,xz,xp⟩⟩,er)) (hk : ∀ p ∈ s.shown,(sp p.key).letter ≠ 0) (hnb : ∀ p ∈ s.shown,∀ i,blkB i p = false) (he : er = 0) (h0 : xi = 0) :
 Calls Tryz.prog 32 #[v,.string path] w (Ans Rep v s 10 [] 41 1 S D w) := by
 have A0 := hQ_ (At.start hr)
 have HX := hQ_ hx
 have HS := hQ_ hW0.stays
 have HL := hQ_ hl
 have C0 := hQ_ (aft0 s)
 have HWT := hQ_ when_t
 have HWF := hQ_ when_f
 have HFI := hQ_ (fun w (S D : Nat → Prop) (t : Vs) (hr : Rep w v t S D) (hsm : Sm t s) hl h2 hx => find_c hW0 path hR hr hsm hl h2 hp hx)
 unfold FndC at HFI
 have hsbx := find_bd s.shown path
 have hibx := find_ib s.shown path
 rw [hR] at hsbx hibx
 obtain ⟨x0,x1,x2,x3,x4⟩ := hsbx
 dsimp only at x0 x1 x2 x3 x4 HFI hibx
 subst he
 have d2 : (xi == 0) = true := by simpa using h0
 clear hr hl hp hR hx hW0 hk hnb h0
 go_enter Tryz.func32,Tryz.ntmps32
 go_wp2_with fail
 refine (HFI.out _ _ _ _ A0.out.rep (Aft.sm0 C0.out.1) (lim_aft C0.out.1 HL.out (by omega) (by omega)) (by have := C0.out.1.rd; omega) (HX.out.at_ A0.out).1).mono ?_
 rintro e w1 ⟨s1,S1,D1,rfl,hr,st,hsm,hrd,hrg⟩
 have C1 := hQ_ (aftF C0.out hsm hrd hrg)
 have X1 := hQ_ (Blk.new_ w1 #[.int .u32 xd,.string xn,.int .u32 xi,.int .u8 xk,.int .u32 xl,.int .u32 xz,.int .u32 xp] 65)
 have hbn := bX_ X1.out
 have AQ := A0.out.step HS.out hr st
 have A1 := hQ_ (AQ.own HS.out hbn (Nat.le_refl w1.heap.size) (by simp))
 have f1_X0 := cC7 X1.out
 clear hr st hsm hrd hrg hbn AQ
 have FE2 : fst_ [0,10] = 10 := rfl
 have HF2 := hQ_ (first_2b (0) (10) (w1.alloc (.cells #[.int .u32 xd,.string xn,.int .u32 xi,.int .u8 xk,.int .u32 xl,.int .u32 xz,.int .u32 xp] 65)) (w1.heap.size + 1) (by simp))
 rw [FE2] at HF2
 clear FE2
 go_upto_region 2 with (fail)
 go_cut [7] (fun p wx => p = .int .i64 (10) ∧ BL_ (w1.alloc (.cells #[.int .u32 xd,.string xn,.int .u32 xi,.int .u8 xk,.int .u32 xl,.int .u32 xz,.int .u32 xp] 65)) wx)
 case first =>
  go_wp2_with (first | (go_at_call 72; (with_reducible refine (HWT.out _ _).mono ?_); rintro e w9 ⟨rfl,rfl⟩) | (go_at_call 72; (with_reducible refine (HWF.out _ _).mono ?_); rintro e w9 ⟨rfl,rfl⟩) | (go_at_call 71; (with_reducible refine HF2.out.1.mono ?_); rintro e w9 ⟨rfl,rfl⟩))
  all_goals
   go_meet
   exact fB_
 case rest =>
  obtain ⟨rfl,hbc⟩ := hcut
  have A2 := hQ_ (A1.out.below HS.out hbc)
  have X2 := hQ_ (X1.out.below hbc)
  skip
  have f2_X0 := cC7 X2.out
  clear hbc f1_X0
  go_wp2_with fail
  go_ret
  exact Ans.ok A2.out ⟨C1.out.1.more (by omega) (by omega),C1.out.2⟩
theorem ulk_there (hW0 : Wk Rep) (path : ByteArray) {xd xi xk xl xz xp er : Int} {xn : ByteArray} (hr : Rep w v s S D) (hl : Lim s) (h2 : s.rd.length ≤ 18000) (h3 : s.rg.length ≤ 900) (hx : Mxs w S) (hp : path.size ≤ 100000) (hR : findM s.shown path = (⟨xd,xn,xi,⟨xk,xl,xz,xp⟩⟩,er)) (hk : ∀ p ∈ s.shown,(sp p.key).letter ≠ 0) (hnb : ∀ p ∈ s.shown,∀ i,blkB i p = false) (he : er = 0) (h0 : xi ≠ 0) :
 Calls Tryz.prog 32 #[v,.string path] w (Ans Rep v s (unlV ⟨xd,xn,xi,⟨xk,xl,xz,xp⟩⟩).1 (unlV ⟨xd,xn,xi,⟨xk,xl,xz,xp⟩⟩).2 41 1 S D w) := by
 have A0 := hQ_ (At.start hr)
 have HX := hQ_ hx
 have HS := hQ_ hW0.stays
 have HL := hQ_ hl
 have C0 := hQ_ (aft0 s)
 have HWT := hQ_ when_t
 have HWF := hQ_ when_f
 have HFI := hQ_ (fun w (S D : Nat → Prop) (t : Vs) (hr : Rep w v t S D) (hsm : Sm t s) hl h2 hx => find_c hW0 path hR hr hsm hl h2 hp hx)
 unfold FndC at HFI
 have hsbx := find_bd s.shown path
 have hibx := find_ib s.shown path
 rw [hR] at hsbx hibx
 obtain ⟨x0,x1,x2,x3,x4⟩ := hsbx
 dsimp only at x0 x1 x2 x3 x4 HFI hibx
 subst he
 have d2 : (xi == 0) = false := by simpa using h0
 have HC := hQ_ (fun w (S D : Nat → Prop) (t : Vs) (hr : Rep w v t S D) (hsm : Sm t s) hl h2 h3 => unlink_calls hW0 xd xi xk xl xz xp xn hr hl h2 h3 x0 x1 x2 x3 x4 hibx (by rw [hsm.shown]; exact hk) (by rw [hsm.shown]; exact fun p hp => hnb p hp xi))
 obtain ⟨⟨rx,ps⟩,hrx⟩ : ∃ r,unlV ⟨xd,xn,xi,⟨xk,xl,xz,xp⟩⟩ = r := ⟨_,rfl⟩
 rw [hrx] at HC ⊢
 dsimp only at HC ⊢
 clear hrx h0
 clear hr hl hp hR hx hW0 hk hnb
 go_enter Tryz.func32,Tryz.ntmps32
 go_wp2_with fail
 refine (HFI.out _ _ _ _ A0.out.rep (Aft.sm0 C0.out.1) (lim_aft C0.out.1 HL.out (by omega) (by omega)) (by have := C0.out.1.rd; omega) (HX.out.at_ A0.out).1).mono ?_
 rintro e w1 ⟨s1,S1,D1,rfl,hr,st,hsm,hrd,hrg⟩
 have C1 := hQ_ (aftF C0.out hsm hrd hrg)
 have X1 := hQ_ (Blk.new_ w1 #[.int .u32 xd,.string xn,.int .u32 xi,.int .u8 xk,.int .u32 xl,.int .u32 xz,.int .u32 xp] 65)
 have hbn := bX_ X1.out
 have AQ := A0.out.step HS.out hr st
 have A1 := hQ_ (AQ.own HS.out hbn (Nat.le_refl w1.heap.size) (by simp))
 have f1_X0 := cC7 X1.out
 clear hr st hsm hrd hrg hbn AQ
 have FE2 : fst_ [0,0] = 0 := rfl
 have HF2 := hQ_ (first_2b (0) (0) (w1.alloc (.cells #[.int .u32 xd,.string xn,.int .u32 xi,.int .u8 xk,.int .u32 xl,.int .u32 xz,.int .u32 xp] 65)) (w1.heap.size + 1) (by simp))
 rw [FE2] at HF2
 clear FE2
 go_upto_region 2 with (fail)
 go_cut [7] (fun p wx => p = .int .i64 (0) ∧ BL_ (w1.alloc (.cells #[.int .u32 xd,.string xn,.int .u32 xi,.int .u8 xk,.int .u32 xl,.int .u32 xz,.int .u32 xp] 65)) wx)
 case first =>
  go_wp2_with (first | (go_at_call 72; (with_reducible refine (HWT.out _ _).mono ?_); rintro e w9 ⟨rfl,rfl⟩) | (go_at_call 72; (with_reducible refine (HWF.out _ _).mono ?_); rintro e w9 ⟨rfl,rfl⟩) | (go_at_call 71; (with_reducible refine HF2.out.1.mono ?_); rintro e w9 ⟨rfl,rfl⟩))
  all_goals
   go_meet
   exact fB_
 case rest =>
  obtain ⟨rfl,hbc⟩ := hcut
  have A2 := hQ_ (A1.out.below HS.out hbc)
  have X2 := hQ_ (X1.out.below hbc)
  skip
  have f2_X0 := cC7 X2.out
  clear hbc f1_X0
  go_wp2_with fail
  refine (HC.out _ _ _ _ A2.out.rep (Aft.sm0 C1.out.1) (lim_aft C1.out.1 HL.out (by omega) (by omega)) (by have := C1.out.1.rd; omega) (by have := C1.out.1.rg; omega)).mono ?_
  intro e w3 hh
  rcases Ans.split hh with ⟨s3,S3,D3,rfl,ho,hr,st,ha⟩ | ⟨s3,S3,D3,rfl,ho,hr,st,ha⟩
  ·have A3 := hQ_ (A2.out.step HS.out hr st)
   have C3 := hQ_ (Aft.thru C1.out (And.intro ha ho))
   clear hr st ha ho
   go_wp2_with fail
   go_ret
   exact Ans.ok A3.out ⟨C3.out.1.more (by omega) (by omega),C3.out.2⟩
  ·have A3 := hQ_ (A2.out.step HS.out hr st)
   have C3 := hQ_ (Aft.thru C1.out (And.intro ha ho))
   clear hr st ha ho
   go_wp2_with fail
   go_ret
   exact Ans.full A3.out ⟨C3.out.1.more (by omega) (by omega),C3.out.2⟩
theorem ulk_calls (hW0 : Wk Rep) (path : ByteArray) (hr : Rep w v s S D) (hl : Lim s) (h2 : s.rd.length ≤ 18000) (h3 : s.rg.length ≤ 900) (hx : Mxs w S) (hp : path.size ≤ 100000) (hk : ∀ p ∈ s.shown,(sp p.key).letter ≠ 0) (hnb : ∀ p ∈ s.shown,∀ i,blkB i p = false) :
 Calls Tryz.prog 32 #[v,.string path] w (Ans Rep v s (ulkV s.shown path).1 (ulkV s.shown path).2 41 1 S D w) := by
 unfold ulkV
 obtain ⟨⟨⟨xd,xn,xi,⟨xk,xl,xz,xp⟩⟩,er⟩,hR⟩ : ∃ R,findM s.shown path = R := ⟨_,rfl⟩
 have h := hR
 rw [hR]
 dsimp only
 by_cases he : er = 0
 ·rw [if_neg (fun h => h he)]
  by_cases h0 : xi = 0
  ·rw [if_pos h0]
   exact ulk_none hW0 path hr hl h2 h3 hx hp h hk hnb he h0
  ·rw [if_neg h0]
   exact ulk_there hW0 path hr hl h2 h3 hx hp h hk hnb he h0
 ·rw [if_pos he]
  exact ulk_err hW0 path hr hl h2 h3 hx hp h hk hnb he
end Go.Proofs.YtfalhnomhidkcaaGreatDoor.DirsKf