import Derived.WalkSmall
import Derived.Test.YtogdjbhjgbnicaaGreatDoorSq
import Derived.Test.YtogdjbhjgbnicaaGreatDoorViewKn
import Derived.Test.YtogdjbhjgbnicaaGreatDoorOpsNumbersMAO
import Derived.Test.YtogdjbhjgbnicaaGreatDoorViewS
import Derived.Test.YtogdjbhjgbnicaaGreatDoorTx
import Derived.Test.YtogdjbhjgbnicaaGreatDoorOpsNumbersMBE
import Derived.StillTailTactics
import Derived.Deep.AppendLies
import Derived.Deep.RegionLaw
set_option maxHeartbeats 16000000
set_option linter.unusedVariables false
set_option linter.unusedSimpArgs false
set_option maxRecDepth 100000
namespace Go.Proofs.YtogdjbhjgbnicaaGreatDoor.ViewKr
open Go.RowKit
open Byte KeysM TreeM ViewM ViewKm ViewKn Own Lst Chg TreeR TreeL TreeG TreeH Ho ViewR ViewS
theorem tl_ne {a b : ByteArray} (h : a ≠ b) : a.toList ≠ b.toList := by simpa using TreeQ.neq_false h
theorem eq2 (a b c d : ByteArray) (w : World) : (Op.equalIn 10000 97 (.agg #[.string a,.string b]) (.agg #[.string c,.string d])).run Tryz.prog w = .ok (decide (a = c) && decide (b = d)) w := by
 have u5 := Tryz.underlying9
 have a5 := Tryz.isAgg9
 have z5 := Tryz.sizeOf9
 rw [show (10000 : Nat) = 9999 + 1 from rfl,Op.equalIn]
 simp only [Sem.run_bind,run_underlying Tryz.underlying97,Result.andThen_ok]
 simp only [Std.Legacy.Range.forIn_eq_forIn_range',Std.Legacy.Range.size,Nat.sub_zero,Nat.add_sub_cancel,Nat.div_one,List.range'_succ,List.range'_zero,List.forIn_cons,List.forIn_nil]
 go_simp
 by_cases h1 : a = c
 ·subst h1
  by_cases h2 : b = d
  ·subst h2
   simp
  ·simp [h2,tl_ne h2]
 ·by_cases h2 : b = d
  ·subst h2
   simp [h1,tl_ne h1]
  ·simp [h1,h2,tl_ne h1]
theorem rg_cells {w : World} {b o k : Nat} {x : ByteArray × ByteArray} (h : w.rangeAt b (o + k * rgE.size) (rgE.cells x)) : w.cell? ⟨b,o + k * 2,none⟩ = some (.string x.1) ∧ w.cell? ⟨b,o + k * 2 + 1,none⟩ = some (.string x.2) := ⟨h 0 _ rfl,h 1 _ rfl⟩
def HasR (x y : ByteArray) (L : List (ByteArray × ByteArray)) (w : World) (e : Ending) (w' : World) : Prop := ∃ i : Int,e = .returned (.int .i64 i) ∧ decide (0 ≤ i) = hasR x y L ∧ Below w.heap.size w w'
theorem index_calls (A : Option Addr) (n c : Nat) (L : List (ByteArray × ByteArray)) (x y : ByteArray) (w : World) (hl : Sl rgE w A n L) (hn : n ≤ 100000) :
 Calls Tryz.prog 76 #[.slice A n c,.agg #[.string x,.string y]] w (HasR x y L w) := by
 have HL := hQ_ hl
 clear hl
 have HX := hQ_ (Blk.new_ w #[.string x,.string y] 97)
 have hb0 := bX_ HX.out
 have HB0 := hQ_ hb0
 clear hb0
 go_enter Tryz.func76,Tryz.ntmps76
 go_wp2
 go_loopw [8] (fun i wr => ∃ k : Nat,k ≤ n ∧ i = .int .i64 k ∧ Hid (∀ j p,j < k → L[j]? = some p → ¬ (p.1 = x ∧ p.2 = y)) ∧ Hid (Below (w.alloc (.cells #[.string x,.string y] 97)).heap.size (w.alloc (.cells #[.string x,.string y] 97)) wr)) (fun i _ => n - (intOf i).toNat)
 case atStart => exact ⟨0,Nat.zero_le _,rfl,hQ_ (fun j p hj => by omega),hQ_ (Below.refl _ _)⟩
 case round =>
  obtain ⟨k,hk,rfl,HNO,HB⟩ := hrel
  by_cases hlt : k < n
  ·obtain ⟨p,g,o,hp,rfl,hg,hcl⟩ := (HL.out.below (keeps HB0.out HB.out)).get k hlt
   obtain ⟨c1,c2⟩ := rg_cells hcl
   have d1 : wr.cell? ⟨w.heap.size,0,none⟩ = some (.string x) := (HX.out.below HB.out).cell 0
   have d2 : wr.cell? ⟨w.heap.size,1,none⟩ = some (.string y) := (HX.out.below HB.out).cell 1
   have HP := hQ_ hp
   have heq := eq2 x y p.1 p.2
   clear hp hcl
   by_cases hq : x = p.1 ∧ y = p.2
   ·have he : ∀ v,(Op.equalIn 10000 97 (.agg #[.string x,.string y]) (.agg #[.string p.1,.string p.2])).run Tryz.prog v = .ok true v := fun v => by rw [heq v,decide_eq_true hq.1,decide_eq_true hq.2]; rfl
    have HQ := hQ_ hq
    clear heq hq
    go_wp2
    go_quiet (fail)
    go_wp2_with fail
    go_ret
    exact ⟨_,rfl,by rw [has_yes HP.out HQ.out.1.symm HQ.out.2.symm]; exact decide_eq_true (by omega),below_drewN (keeps HB0.out HB.out) _⟩
   ·have he : ∀ v,(Op.equalIn 10000 97 (.agg #[.string x,.string y]) (.agg #[.string p.1,.string p.2])).run Tryz.prog v = .ok false v := fun v => by
     rw [heq v]
     congr 1
     rw [← Bool.not_eq_true,Bool.and_eq_true,decide_eq_true_eq,decide_eq_true_eq]
     exact hq
    have HNO2 : Hid (∀ j q,j < k + 1 → L[j]? = some q → ¬ (q.1 = x ∧ q.2 = y)) := hQ_ (fun j q hj hjq => by
     rcases Nat.lt_or_ge j k with h1 | h1
     ·exact HNO.out j q h1 hjq
     ·obtain rfl : j = k := by omega
      have := HP.out
      rw [hjq] at this
      injection this with this
      subst this
      exact fun h => hq ⟨h.1.symm,h.2.symm⟩)
    clear heq hq
    go_wp2
    go_quiet (fail)
    go_wp2_with fail
    go_roundw
    case rel => exact ⟨k + 1,by omega,by go_num,HNO2,hQ_ (below_drewN HB.out _)⟩
    case measure => simp [intOf]; omega
  ·obtain rfl : k = n := by omega
   go_wp2_with fail
   go_ret
   exact ⟨_,rfl,by rw [has_no (fun j p hj hp => HNO.out j p (by rw [← HL.out.1]; exact hj) hp)]; exact decide_eq_false (by omega),keeps HB0.out HB.out⟩
theorem contains_calls (A : Option Addr) (n c : Nat) (L : List (ByteArray × ByteArray)) (x y : ByteArray) (w : World) (hl : Sl rgE w A n L) (hn : n ≤ 100000) :
 Calls Tryz.prog 43 #[.slice A n c,.agg #[.string x,.string y]] w fun e w' => e = .returned (.bool (hasR x y L)) ∧ Below w.heap.size w w' := by
 have HX := hQ_ (Blk.new_ w #[.string x,.string y] 97)
 have hb0 := bX_ HX.out
 have HI := hQ_ (index_calls A n c L x y _ (hl.below hb0) hn)
 have HB0 := hQ_ hb0
 clear hb0 hl
 go_enter Tryz.func43,Tryz.ntmps43
 go_wp2_with (first
  | ((with_reducible refine pick (some 6) ?_); refine load_blk rfl 97 _ rfl w.heap.size rfl 97 #[.string x,.string y] _ HX.out Tryz.underlying97 rfl (by kernel_rfl) ?_)
  | (go_at_call 76; refine HI.out.mono ?_; rintro e w1 ⟨i,rfl,hi,hb1⟩; have HH := hQ_ hi; have HB1 := hQ_ hb1; clear hi hb1))
 go_ret
 exact ⟨congrArg Ending.returned (congrArg Value.bool HH.out),keeps HB0.out HB1.out⟩
def CloneR (L : List (ByteArray × ByteArray)) (w : World) (e : Ending) (w' : World) : Prop := ∃ v,e = .returned v ∧ So rgE 97 w' w.heap.size v L.length L ∧ Below w.heap.size w w'
theorem clone_calls (A : Option Addr) (n c : Nat) (L : List (ByteArray × ByteArray)) (w : World) (hl : Sl rgE w A n L) (hn : n ≤ 100000) (h0 : A = none → c = 0) :
 Calls Tryz.prog 40 #[.slice A n c] w (CloneR L w) := by
 have HL := hQ_ hl
 have HC := hQ_ h0
 clear hl h0
 cases A with
 | none =>
   have hn0 : n = 0 := by
    rcases Nat.eq_zero_or_pos n with h | h
    ·exact h
    ·obtain ⟨_,_,_,_,e,_⟩ := HL.out.get 0 h
     cases e
   subst hn0
   have hL : L = [] := List.eq_nil_of_length_eq_zero HL.out.1
   subst hL
   have hc : c = 0 := HC.out rfl
   subst hc
   have hq : ∀ v,(binOp .eql 71 (.slice none 0 0) (.slice none 0 0)).run Tryz.prog v = .ok (.bool true) v := fun v => by kernel_rfl
   go_enter Tryz.func40,Tryz.ntmps40
   go_wp2_with fail
   go_ret
   exact ⟨_,rfl,So.nil_ _ _ _ _,Below.refl _ _⟩
 | some a =>
   have hq : ∀ v,(binOp .eql 71 (.slice (some a) n c) (.slice none 0 0)).run Tryz.prog v = .ok (.bool false) v := fun v => by kernel_rfl
   have hb0 := bN_ w (.cells #[] 97)
   have HB0 := hQ_ hb0
   have HL2 := hQ_ (HL.out.below hb0)
   have HO := hQ_ (So.new_ rgE 97 w (base := w.heap.size) (Nat.le_refl _))
   clear hb0
   go_enter Tryz.func40,Tryz.ntmps40
   go_wp2_with ((with_reducible refine pick (some 7) ?_); refine Tx.wpList_append_any rgE 97 rfl _ _ _ rfl Tryz.underlying71 info_rg rfl w.heap.size _ _ _ rfl HO.out (some a) n c L rfl HL2.out (fun h => by cases h) _ (Nat.zero_add n) _ (List.nil_append L) (by unfold maxLen; omega) (by omega) (by simp) ?_; intro v' w2 ho2 hg2 hat2)
   have HO2 := hQ_ ho2
   have HB2 : Hid (Below w.heap.size w w2) := hQ_ (HB0.out.grown hg2 (by simp) (fun g hg => (HO.out.lt hg).1))
   have HLN := hQ_ HL.out.1
   clear ho2 hg2 hat2
   go_wp2_with fail
   go_ret
   refine ⟨_,rfl,?_,HB2.out⟩
   rw [HLN.out]
   exact HO2.out
end Go.Proofs.YtogdjbhjgbnicaaGreatDoor.ViewKr
namespace Go.Proofs.YtogdjbhjgbnicaaGreatDoor.ViewKs
open Go.RowKit
open Byte KeysM TreeM ViewM ViewKm ViewKn ViewKr Own Lst Chg TreeR TreeL TreeG TreeH Ho ViewR
theorem So.chg {α : Type} {e : Enc α} {T : TypeId} {w w' : World} {base n : Nat} {v : Value} {L : List α} {S : Nat → Prop} (h : So e T w base v n L) (k : Chg S w w') (hn : ∀ g,v.ownBlock = some g → ¬ S g) : So e T w' base v n L := by
 obtain ⟨h1,h2,h4⟩ := h
 refine ⟨h1,h2,?_⟩
 rcases h4 with h4 | ⟨g,cap,cur,e1,e2,e3,rest⟩
 ·exact .inl h4
 ·have hlt : g < w.heap.size := by
   rcases Nat.lt_or_ge g w.heap.size with h | h
   ·exact h
   ·rw [Array.getElem?_eq_none h] at e3
    cases e3
  exact .inr ⟨g,cap,cur,e1,e2,(k.block g hlt (hn g (by rw [e1]; rfl))).trans e3,rest⟩
theorem So.apart {α : Type} {e : Enc α} {T U : TypeId} {w : World} {base n g : Nat} {v : Value} {L : List α} {cs : Array Value} (h : So e T w base v n L) (hb : Blk w g cs U) (hne : U ≠ T) : ∀ k,v.ownBlock = some k → k ≠ g := fun k hk e => by
 subst e
 rcases h.2.2 with ⟨h1,_⟩ | ⟨g',cap,cur,h1,_,h3,_⟩
 ·rw [h1] at hk
  cases hk
 ·rw [h1] at hk
  have : g' = k := by injection hk
  subst this
  unfold Blk at hb
  rw [hb] at h3
  injection h3 with h3
  injection h3 with _ h3
  exact hne h3
structure VC (w : World) (g : Nat) (b sh wt rd rg : Value) (B S W R : List Pr) (G : List (ByteArray × ByteArray)) : Prop where
 blk : Blk w g #[b,sh,wt,rd,rg] 73
 base : TN w b B
 shown : TN w sh S
 wr : TN w wt W
 read : TN w rd R
 rgs : So rgE 97 w 0 rg G.length G
section
variable {w w' : World} {g : Nat} {b sh wt rd rg : Value} {B S W R : List Pr} {G : List (ByteArray × ByteArray)}
theorem VC.apart (h : VC w g b sh wt rd rg B S W R G) : ∀ k,rg.ownBlock = some k → k ≠ g := So.apart h.rgs h.blk (by decide)
theorem VC.lt (h : VC w g b sh wt rd rg B S W R G) : g < w.heap.size := h.blk.lt
theorem VC.stay {T : Nat → Prop} (h : VC w g b sh wt rd rg B S W R G) (c : Chg T w w') (k : Kept w w') (h1 : ¬ T g) (h2 : ∀ k,rg.ownBlock = some k → ¬ T k) : VC w' g b sh wt rd rg B S W R G :=
 ⟨ViewD.blk_chg h.blk c h1,h.base.keep k,h.shown.keep k,h.wr.keep k,h.read.keep k,So.chg h.rgs c h2⟩
theorem VC.below (h : VC w g b sh wt rd rg B S W R G) (hb : Below w.heap.size w w') : VC w' g b sh wt rd rg B S W R G :=
 ⟨h.blk.below hb,h.base.below hb,h.shown.below hb,h.wr.below hb,h.read.below hb,h.rgs.below hb⟩
theorem VC.cells (h : VC w g b sh wt rd rg B S W R G) : w.cell? ⟨g,0,none⟩ = some b ∧ w.cell? ⟨g,1,none⟩ = some sh ∧ w.cell? ⟨g,2,none⟩ = some wt ∧ w.cell? ⟨g,3,none⟩ = some rd ∧ w.cell? ⟨g,4,none⟩ = some rg ∧ (∀ i,w.frozen? ⟨g,i,none⟩ = false) :=
 ⟨h.blk.cell 0,h.blk.cell 1,h.blk.cell 2,h.blk.cell 3,h.blk.cell 4,h.blk.frozen⟩
theorem kset (h : VC w g b sh wt rd rg B S W R G) (i : Nat) (u : Value) : Kept w (w.setCell ⟨g,i,none⟩ u) := ViewD.kept_set h.blk (by decide) i u
theorem rset (h : VC w g b sh wt rd rg B S W R G) (i : Nat) (u : Value) : So rgE 97 (w.setCell ⟨g,i,none⟩ u) 0 rg G.length G :=
 So.chg h.rgs ((Chg.refl (fun k => k = g) w).own i u) (fun k hk e => h.apart k hk e)
theorem VC.put1 (h : VC w g b sh wt rd rg B S W R G) {u : Value} {S' : List Pr} (hu : TN w u S') : VC (w.setCell ⟨g,1,none⟩ u) g b u wt rd rg B S' W R G :=
 ⟨h.blk.set_ 1 u,h.base.keep (kset h 1 u),hu.keep (kset h 1 u),h.wr.keep (kset h 1 u),h.read.keep (kset h 1 u),rset h 1 u⟩
theorem VC.put2 (h : VC w g b sh wt rd rg B S W R G) {u : Value} {W' : List Pr} (hu : TN w u W') : VC (w.setCell ⟨g,2,none⟩ u) g b sh u rd rg B S W' R G :=
 ⟨h.blk.set_ 2 u,h.base.keep (kset h 2 u),h.shown.keep (kset h 2 u),hu.keep (kset h 2 u),h.read.keep (kset h 2 u),rset h 2 u⟩
theorem VC.put3 (h : VC w g b sh wt rd rg B S W R G) {u : Value} {R' : List Pr} (hu : TN w u R') : VC (w.setCell ⟨g,3,none⟩ u) g b sh wt u rg B S W R' G :=
 ⟨h.blk.set_ 3 u,h.base.keep (kset h 3 u),h.shown.keep (kset h 3 u),h.wr.keep (kset h 3 u),hu.keep (kset h 3 u),rset h 3 u⟩
def own (g : Nat) (rg : Value) : Nat → Prop := fun k => k = g ∨ rg.ownBlock = some k
structure Did (g : Nat) (rg : Value) (w w' : World) : Prop where
 chg : Chg (own g rg) w w'
 kept : Kept w w'
theorem Did.refl (g : Nat) (rg : Value) (w : World) : Did g rg w w := ⟨Chg.refl _ _,fun _ _ _ _ _ h => h⟩
theorem Did.below {w1 : World} (d : Did g rg w w1) (hb : Below w1.heap.size w1 w') : Did g rg w w' := ⟨d.chg.trans (Chg.of_below hb),ViewD.Kept.trans d.kept (Kept.of_below hb)⟩
theorem Did.set {w1 : World} (d : Did g rg w w1) (h : VC w1 g b sh wt rd rg B S W R G) (i : Nat) (u : Value) : Did g rg w (w1.setCell ⟨g,i,none⟩ u) :=
 ⟨d.chg.setCell (.inl (.inl rfl)) u,ViewD.Kept.trans d.kept (kset h i u)⟩
end
variable {w : World} {g : Nat} {b sh wt rd rg : Value} {B S W R : List Pr} {G : List (ByteArray × ByteArray)}
theorem look_calls (k : ByteArray) (h : VC w g b sh wt rd rg B S W R G) (hl : S.length ≤ 50000) :
 Calls Tryz.prog 134 #[.pointer (some ⟨g,0,none⟩),.string k] w fun e w' => e = .returned (GotV (getL k S)) ∧ w = w' := by
 have HG := hQ_ (tnget k h.shown hl)
 obtain ⟨_,c1,_,_,_,_⟩ := h.cells
 clear h
 cases hG : getL k S with
 | none =>
   rw [hG] at HG
   go_enter Tryz.func134,Tryz.ntmps134
   go_wp2_with (go_at_call 42; refine HG.out.mono ?_; rintro e w1 ⟨rfl,rfl⟩; dsimp only [GotV])
   go_ret2
   exact ⟨rfl,rfl⟩
 | some p =>
   rw [hG] at HG
   go_enter Tryz.func134,Tryz.ntmps134
   go_wp2_with (go_at_call 42; refine HG.out.mono ?_; rintro e w1 ⟨rfl,rfl⟩; dsimp only [GotV])
   go_ret2
   exact ⟨rfl,rfl⟩
theorem get_calls (k : ByteArray) (h : VC w g b sh wt rd rg B S W R G) (hl : S.length ≤ 50000) (hr : R.length ≤ 50000) :
 Calls Tryz.prog 152 #[.pointer (some ⟨g,0,none⟩),.string k] w fun e w' => ∃ rd',e = .returned (GotV (getL k S)) ∧ VC w' g b sh wt rd' rg B S W (putL k ⟨#[]⟩ R) G ∧ Did g rg w w' := by
 have HS := hQ_ (tnset k ⟨#[]⟩ h.read hr)
 obtain ⟨_,c1,_,c3,_,f3⟩ := h.cells
 have HV := hQ_ h
 clear h f3
 obtain ⟨o,ho⟩ : ∃ o,getL k S = o := ⟨_,rfl⟩
 have HO := hQ_ ho
 clear ho
 go_enter Tryz.func152,Tryz.ntmps152
 go_wp2_with (go_at_call 148; refine HS.out.mono ?_; rintro e w1 ⟨rd',rfl,hrd,hb1⟩; obtain ⟨A1,rfl⟩ := hrd.form; have HV1 := hQ_ (HV.out.below hb1); have HV2 := hQ_ (HV1.out.put3 hrd); have HD := hQ_ (((Did.refl g rg w).below hb1).set HV1.out 3 (.pointer A1)); obtain ⟨k0,k1,k2,k3,k4,k5⟩ := HV1.out.cells; have f3 := k5 3; clear hrd hb1 k5)
 refine (look_calls k HV2.out hl).mono ?_
 rintro e w2 ⟨rfl,rfl⟩
 rw [HO.out]
 cases o with
 | none =>
   dsimp only [GotV]
   go_wp2_with fail
   go_ret2
   exact ⟨_,by rw [HO.out]; rfl,HV2.out,HD.out⟩
 | some p =>
   dsimp only [GotV]
   go_wp2_with fail
   go_ret2
   exact ⟨_,by rw [HO.out]; rfl,HV2.out,HD.out⟩
def roomB (k : ByteArray) (W : List Pr) : Bool := (getL k W).isSome || decide (W.length < 48)
theorem room_calls (k : ByteArray) (h : VC w g b sh wt rd rg B S W R G) (hl : W.length ≤ 50000) :
 Calls Tryz.prog 147 #[.pointer (some ⟨g,0,none⟩),.string k] w fun e w' => e = .returned (.bool (roomB k W)) ∧ w = w' := by
 have HG := hQ_ (tnget k h.wr hl)
 have HL := hQ_ (tnlen h.wr hl)
 obtain ⟨n,hn⟩ : ∃ n,W.length = n := ⟨_,rfl⟩
 rw [hn] at HL hl
 have HN := hQ_ hn
 obtain ⟨_,_,c2,_,_,_⟩ := h.cells
 clear h hn
 unfold roomB
 rw [HN.out]
 cases hG : getL k W with
 | none =>
   rw [hG] at HG
   clear hG
   by_cases h48 : n < 48
   ·have d : decide (n < 48) = true := decide_eq_true h48
    have d2 : decide ((n : Int) < 48) = true := decide_eq_true (by omega)
    rw [d]
    clear d
    go_enter Tryz.func147,Tryz.ntmps147
    go_wp2_with (first
     | (go_at_call 42; refine HG.out.mono ?_; rintro e w1 ⟨rfl,rfl⟩; dsimp only [GotV])
     | (go_at_call 72; refine HL.out.mono ?_; rintro e w1 ⟨rfl,rfl⟩))
    go_ret
    exact ⟨by simp [d2],rfl⟩
   ·have d : decide (n < 48) = false := decide_eq_false h48
    have d2 : decide ((n : Int) < 48) = false := decide_eq_false (by omega)
    rw [d]
    clear d
    go_enter Tryz.func147,Tryz.ntmps147
    go_wp2_with (first
     | (go_at_call 42; refine HG.out.mono ?_; rintro e w1 ⟨rfl,rfl⟩; dsimp only [GotV])
     | (go_at_call 72; refine HL.out.mono ?_; rintro e w1 ⟨rfl,rfl⟩))
    go_ret
    exact ⟨by simp [d2],rfl⟩
 | some p =>
   rw [hG] at HG
   clear hG
   go_enter Tryz.func147,Tryz.ntmps147
   go_wp2_with (first
    | (go_at_call 42; refine HG.out.mono ?_; rintro e w1 ⟨rfl,rfl⟩; dsimp only [GotV])
    | (go_at_call 72; refine HL.out.mono ?_; rintro e w1 ⟨rfl,rfl⟩))
   go_ret
   exact ⟨by simp,rfl⟩
theorem room_is (k : ByteArray) {r : Bool} (hr : roomB k W = r) (h : VC w g b sh wt rd rg B S W R G) (hl : W.length ≤ 50000) :
 Calls Tryz.prog 147 #[.pointer (some ⟨g,0,none⟩),.string k] w fun e w' => e = .returned (.bool r) ∧ w = w' := by
 subst hr
 exact room_calls k h hl
theorem set_no (k x : ByteArray) (h : VC w g b sh wt rd rg B S W R G) (hl : W.length ≤ 50000) (hr : roomB k W = false) :
 Calls Tryz.prog 122 #[.pointer (some ⟨g,0,none⟩),.string k,.string x] w fun e w' => e = .returned (.bool false) ∧ w = w' := by
 have HR := hQ_ (room_is k hr h hl)
 clear h hr
 go_enter Tryz.func122,Tryz.ntmps122
 go_wp2_with (go_at_call 147; refine HR.out.mono ?_; rintro e w1 ⟨rfl,rfl⟩)
 go_ret
 exact ⟨rfl,rfl⟩
theorem set_yes (k x : ByteArray) (h : VC w g b sh wt rd rg B S W R G) (hs : S.length ≤ 50000) (hl : W.length ≤ 50000) (hr : roomB k W = true) :
 Calls Tryz.prog 122 #[.pointer (some ⟨g,0,none⟩),.string k,.string x] w fun e w' => ∃ sh' wt',e = .returned (.bool true) ∧ VC w' g b sh' wt' rd rg B (putL k x S) (putL k ⟨#[]⟩ W) R G ∧ Did g rg w w' := by
 have HR := hQ_ (room_is k hr h hl)
 have HS := hQ_ (tnset k x h.shown hs)
 have HV := hQ_ h
 obtain ⟨_,c1,_,_,_,_⟩ := h.cells
 clear h hr
 go_enter Tryz.func122,Tryz.ntmps122
 go_wp2_with (first
  | (go_at_call 147; refine HR.out.mono ?_; rintro e w1 ⟨rfl,rfl⟩)
  | (go_at_call 148; (with_reducible refine HS.out.mono ?_); rintro e w1 ⟨sh',rfl,hsh,hb1⟩; obtain ⟨A1,rfl⟩ := hsh.form; have HV1 := hQ_ (HV.out.below hb1); have HV2 := hQ_ (HV1.out.put1 hsh); have HD := hQ_ (((Did.refl g rg w).below hb1).set HV1.out 1 (.pointer A1)); obtain ⟨k0,k1,k2,k3,k4,k5⟩ := HV1.out.cells; have f1 := k5 1; clear hsh hb1 k5)
  | (go_at_call 148; refine (tnset k ⟨#[]⟩ HV2.out.wr hl).mono ?_; rintro e w2 ⟨wt',rfl,hwt,hb2⟩; obtain ⟨A2,rfl⟩ := hwt.form; have HV3 := hQ_ (HV2.out.below hb2); have HV4 := hQ_ (HV3.out.put2 hwt); have HD2 := hQ_ ((HD.out.below hb2).set HV3.out 2 (.pointer A2)); obtain ⟨m0,m1,m2,m3,m4,m5⟩ := HV3.out.cells; have f2 := m5 2; clear hwt hb2 m5))
 go_ret
 exact ⟨_,_,rfl,HV4.out,HD2.out⟩
theorem cut_no (k : ByteArray) (h : VC w g b sh wt rd rg B S W R G) (hl : W.length ≤ 50000) (hr : roomB k W = false) :
 Calls Tryz.prog 133 #[.pointer (some ⟨g,0,none⟩),.string k] w fun e w' => e = .returned (.bool false) ∧ w = w' := by
 have HR := hQ_ (room_is k hr h hl)
 clear h hr
 go_enter Tryz.func133,Tryz.ntmps133
 go_wp2_with (go_at_call 147; refine HR.out.mono ?_; rintro e w1 ⟨rfl,rfl⟩)
 go_ret
 exact ⟨rfl,rfl⟩
theorem cut_yes (k : ByteArray) (p : Pr) (hB : getL k B = some p) (h : VC w g b sh wt rd rg B S W R G) (hb : B.length ≤ 50000) (hs : S.length ≤ 50000) (hl : W.length ≤ 50000) (hr : roomB k W = true) :
 Calls Tryz.prog 133 #[.pointer (some ⟨g,0,none⟩),.string k] w fun e w' => ∃ sh' wt',e = .returned (.bool true) ∧ VC w' g b sh' wt' rd rg B (cutL k S) (putL k ⟨#[]⟩ W) R G ∧ Did g rg w w' := by
 have HR := hQ_ (room_is k hr h hl)
 have HS := hQ_ (tncut k h.shown hs)
 have HV := hQ_ h
 have HB := hQ_ hB
 obtain ⟨_,c1,_,_,_,_⟩ := h.cells
 clear h hr hB
 go_enter Tryz.func133,Tryz.ntmps133
 go_wp2_with (first
  | (go_at_call 147; refine HR.out.mono ?_; rintro e w1 ⟨rfl,rfl⟩)
  | (go_at_call 158; (with_reducible refine HS.out.mono ?_); rintro e w1 ⟨sh',rfl,hsh,hb1⟩; obtain ⟨A1,rfl⟩ := hsh.form; have HV1 := hQ_ (HV.out.below hb1); have HV2 := hQ_ (HV1.out.put1 hsh); have HD := hQ_ (((Did.refl g rg w).below hb1).set HV1.out 1 (.pointer A1)); obtain ⟨k0,k1,k2,k3,k4,k5⟩ := HV1.out.cells; have f1 := k5 1; have hgb := tnget k HV2.out.base hb; rw [HB.out] at hgb; have HGB := hQ_ hgb; clear hsh hb1 k5 hgb)
  | (go_at_call 42; refine HGB.out.mono ?_; rintro e w3 ⟨rfl,rfl⟩; dsimp only [GotV])
  | (go_at_call 148; refine (tnset k ⟨#[]⟩ HV2.out.wr hl).mono ?_; rintro e w2 ⟨wt',rfl,hwt,hb2⟩; obtain ⟨A2,rfl⟩ := hwt.form; have HV3 := hQ_ (HV2.out.below hb2); have HV4 := hQ_ (HV3.out.put2 hwt); have HD2 := hQ_ ((HD.out.below hb2).set HV3.out 2 (.pointer A2)); obtain ⟨m0,m1,m2,m3,m4,m5⟩ := HV3.out.cells; have f2 := m5 2; clear hwt hb2 m5))
 go_ret
 exact ⟨_,_,rfl,HV4.out,HD2.out⟩
theorem cut_new (k : ByteArray) (hB : getL k B = none) (h : VC w g b sh wt rd rg B S W R G) (hb : B.length ≤ 50000) (hs : S.length ≤ 50000) (hl : W.length ≤ 50000) (hr : roomB k W = true) :
 Calls Tryz.prog 133 #[.pointer (some ⟨g,0,none⟩),.string k] w fun e w' => ∃ sh' wt',e = .returned (.bool true) ∧ VC w' g b sh' wt' rd rg B (cutL k S) (cutL k W) R G ∧ Did g rg w w' := by
 have HR := hQ_ (room_is k hr h hl)
 have HS := hQ_ (tncut k h.shown hs)
 have HV := hQ_ h
 have HB := hQ_ hB
 obtain ⟨_,c1,_,_,_,_⟩ := h.cells
 clear h hr hB
 go_enter Tryz.func133,Tryz.ntmps133
 go_wp2_with (first
  | (go_at_call 147; refine HR.out.mono ?_; rintro e w1 ⟨rfl,rfl⟩)
  | (go_at_call 158; (with_reducible refine HS.out.mono ?_); rintro e w1 ⟨sh',rfl,hsh,hb1⟩; obtain ⟨A1,rfl⟩ := hsh.form; have HV1 := hQ_ (HV.out.below hb1); have HV2 := hQ_ (HV1.out.put1 hsh); have HD := hQ_ (((Did.refl g rg w).below hb1).set HV1.out 1 (.pointer A1)); obtain ⟨k0,k1,k2,k3,k4,k5⟩ := HV1.out.cells; have f1 := k5 1; have hgb := tnget k HV2.out.base hb; rw [HB.out] at hgb; have HGB := hQ_ hgb; clear hsh hb1 k5 hgb)
  | (go_at_call 42; refine HGB.out.mono ?_; rintro e w3 ⟨rfl,rfl⟩; dsimp only [GotV])
  | (go_at_call 158; (with_reducible refine (tncut k HV2.out.wr hl).mono ?_); rintro e w2 ⟨wt',rfl,hwt,hb2⟩; obtain ⟨A2,rfl⟩ := hwt.form; have HV3 := hQ_ (HV2.out.below hb2); have HV4 := hQ_ (HV3.out.put2 hwt); have HD2 := hQ_ ((HD.out.below hb2).set HV3.out 2 (.pointer A2)); obtain ⟨m0,m1,m2,m3,m4,m5⟩ := HV3.out.cells; have f2 := m5 2; clear hwt hb2 m5))
 go_ret
 exact ⟨_,_,rfl,HV4.out,HD2.out⟩
end Go.Proofs.YtogdjbhjgbnicaaGreatDoor.ViewKs
namespace Go.Proofs.YtogdjbhjgbnicaaGreatDoor.ViewKw
open Go.RowKit
open Byte KeysM TreeM ViewM ViewKm ViewKn ViewKr ViewKs Own Lst Chg TreeR TreeL TreeG TreeH Ho ViewR
variable {w : World} {g : Nat} {b sh wt rd rg : Value} {B S W R : List Pr} {G : List (ByteArray × ByteArray)}
theorem new_view (w : World) (b : Value) (h : TN w b B) : VC (w.alloc (.cells #[b,b,.pointer none,.pointer none,.slice none 0 0] 73)) w.heap.size b b (.pointer none) (.pointer none) (.slice none 0 0) B B [] [] [] := by
 have hb := bN_ w (.cells #[b,b,.pointer none,.pointer none,.slice none 0 0] 73)
 exact ⟨Blk.new_ _ _ _,h.below hb,h.below hb,.inl ⟨rfl,rfl⟩,.inl ⟨rfl,rfl⟩,So.nil_ _ _ _ _⟩
theorem new_calls (b : Value) (w : World) (h : TN w b B) : Calls Tryz.prog 9 #[b] w fun e w' => e = .returned (.pointer (some ⟨w.heap.size,0,none⟩)) ∧ VC w' w.heap.size b b (.pointer none) (.pointer none) (.slice none 0 0) B B [] [] [] ∧ Below w.heap.size w w' := by
 obtain ⟨A,rfl⟩ := h.form
 have HV := hQ_ (new_view w _ h)
 have hb := bN_ w (.cells #[.pointer A,.pointer A,.pointer none,.pointer none,.slice none 0 0] 73)
 have HB := hQ_ hb
 clear h hb
 go_enter Tryz.func9,Tryz.ntmps9
 go_wp2_with fail
 go_ret
 exact ⟨rfl,HV.out,HB.out⟩
theorem info_view5 : (Tryz.prog.info? 73).map (·.size) = some 5 := by kernel_rfl
theorem VC.copy {w1 w2 : World} {v : Value} (h : VC w1 g b sh wt rd rg B S W R G) {c : Nat} (hb : Below w1.heap.size w1 w2) (hc : Blk w2 c #[b,sh,wt,rd,rg] 73) (ho : So rgE 97 w2 w1.heap.size v G.length G) : VC (w2.setCell ⟨c,4,none⟩ v) c b sh wt rd v B S W R G := by
 have k : Kept w2 (w2.setCell ⟨c,4,none⟩ v) := ViewD.kept_set hc (by decide) 4 v
 have h2 := h.below hb
 have ap := So.apart ho hc (by decide)
 exact ⟨hc.set_ 4 v,h2.base.keep k,h2.shown.keep k,h2.wr.keep k,h2.read.keep k,So.chg (S := fun q => q = c) (So.lower ho (Nat.zero_le _)) ((Chg.refl (fun q => q = c) w2).own 4 v) (fun q hq e => ap q hq e)⟩
theorem copy_calls (h : VC w g b sh wt rd rg B S W R G) (hr : G.length ≤ 2000) :
 Calls Tryz.prog 21 #[.pointer (some ⟨g,0,none⟩)] w fun e w' => ∃ c rg',e = .returned (.pointer (some ⟨c,0,none⟩)) ∧ w.heap.size ≤ c ∧ (∀ k,rg'.ownBlock = some k → w.heap.size ≤ k) ∧ VC w' c b sh wt rd rg' B S W R G ∧ Below w.heap.size w w' := by
 obtain ⟨A,c,e,_,_,h0⟩ := Tx.So.head h.rgs
 subst e
 obtain ⟨Ab,rfl⟩ := h.base.form
 obtain ⟨As,rfl⟩ := h.shown.form
 obtain ⟨Aw,rfl⟩ := h.wr.form
 obtain ⟨Ar,rfl⟩ := h.read.form
 obtain ⟨n,hn⟩ : ∃ n,G.length = n := ⟨_,rfl⟩
 have hb1 := bN_ w (.cells #[.pointer Ab,.pointer As,.pointer Aw,.pointer Ar,.slice A G.length c] 73)
 have hs : Sl rgE w A G.length G := So.sl h.rgs
 have HK := hQ_ (clone_calls A G.length c G _ (hs.below hb1) (by omega) h0)
 have HB1 := hQ_ hb1
 have HBL := hQ_ h.blk
 have HV1 := hQ_ (h.below hb1)
 have HC := hQ_ (Blk.new_ w #[.pointer Ab,.pointer As,.pointer Aw,.pointer Ar,.slice A G.length c] 73)
 obtain ⟨_,_,_,_,c4,_⟩ := HV1.out.cells
 rw [hn] at c4 HBL HC HB1 HK HV1
 clear h hs hb1 hn
 go_enter Tryz.func21,Tryz.ntmps21
 go_wp2_with (first
  | ((with_reducible refine pick (some 8) ?_); refine load_blk rfl 73 _ rfl g rfl 73 #[.pointer Ab,.pointer As,.pointer Aw,.pointer Ar,.slice A n c] _ HBL.out Tryz.underlying73 rfl info_view5 ?_)
  | (go_at_call 40; refine HK.out.mono ?_; rintro e w2 ⟨v,rfl,ho,hb2⟩; obtain ⟨A3,c3,rfl,_,_,_⟩ := Tx.So.head ho; have HO := hQ_ ho; have HB2 := hQ_ hb2; have HC2 := hQ_ (HC.out.below hb2); have k4 := HC2.out.cell 4; have f4 := HC2.out.frozen 4; clear ho hb2))
 go_ret
 refine ⟨w.heap.size,_,rfl,Nat.le_refl _,fun k hk => ?_,VC.copy HV1.out HB2.out HC2.out HO.out,(keeps HB1.out HB2.out).setCell (Nat.le_refl _) _⟩
 have := (So.lt HO.out hk).1
 have := HB1.out.size
 omega
def RgTo (w : World) (rg rg' : Value) : Prop := rg'.ownBlock = rg.ownBlock ∨ ∃ k,rg'.ownBlock = some k ∧ w.heap.size ≤ k
def RangeR (g : Nat) (b sh wt rd rg : Value) (B S W R : List Pr) (G : List (ByteArray × ByteArray)) (L : List Pr) (w : World) (e : Ending) (w' : World) : Prop := ∃ v rg',e = .returned v ∧ So prE 64 w' w.heap.size v L.length L ∧ VC w' g b sh wt rd rg' B S W R G ∧ Did g rg w w' ∧ RgTo w rg rg'
theorem range_none (x y : ByteArray) (h : VC w g b sh wt rd rg B S W R G) (hk : kl x y = false) :
 Calls Tryz.prog 25 #[.pointer (some ⟨g,0,none⟩),.string x,.string y] w (RangeR g b sh wt rd rg B S W R G [] w) := by
 have f1 : Op.bytesLess x.toList y.toList = false := hk
 have HV := hQ_ h
 clear h hk
 go_enter Tryz.func25,Tryz.ntmps25
 go_wp2_with fail
 go_ret
 exact ⟨_,rg,rfl,So.nil_ _ _ _ _,HV.out,Did.refl _ _ _,.inl rfl⟩
theorem range_old (x y : ByteArray) (h : VC w g b sh wt rd rg B S W R G) (hs : S.length ≤ 50000) (hg : G.length ≤ 50000) (hk : kl x y = true) (hR : hasR x y G = true) :
 Calls Tryz.prog 25 #[.pointer (some ⟨g,0,none⟩),.string x,.string y] w (RangeR g b sh wt rd rg B S W R G (rangeL x y S) w) := by
 have f1 : Op.bytesLess x.toList y.toList = true := hk
 have HV := hQ_ h
 have HRR := hQ_ hR
 have hb1 := bN_ w (.cells #[.string x,.string y] 97)
 have HB1 := hQ_ hb1
 obtain ⟨W1,hW1⟩ : ∃ W1,w.alloc (.cells #[.string x,.string y] 97) = W1 := ⟨_,rfl⟩
 have HBX := Blk.new_ w #[.string x,.string y] 97
 rw [hW1] at HB1 HBX
 have HV1 := hQ_ (HV.out.below HB1.out)
 obtain ⟨k0,k1,k2,k3,k4,_⟩ := HV1.out.cells
 obtain ⟨x0,x1⟩ := cC2 HBX
 have E1 := hQ_ hW1
 clear h hk hR hb1 hW1 HBX
 obtain ⟨A,c,e,_,_,h0⟩ := Tx.So.head HV.out.rgs
 subst e
 go_enter Tryz.func25,Tryz.ntmps25
 go_upto_region 4 with (fail)
 change Code.wp _ _ _ _ (w.alloc (.cells #[.string x,.string y] 97))
 rw [E1.out]
 have HCT := hQ_ (contains_calls A G.length c G x y W1.drew (So.sl (So.below HV1.out.rgs ((Below.refl _ _).drew))) (by omega))
 rw [HRR.out] at HCT
 have y4 : W1.drew.cell? ⟨g,4,none⟩ = some (.slice A G.length c) := k4
 have y0 : W1.drew.cell? ⟨w.heap.size,0,none⟩ = some (.string x) := x0
 have y1 : W1.drew.cell? ⟨w.heap.size,1,none⟩ = some (.string y) := x1
 go_still_tail 5,(by kernel_rfl)
 change wpList _ _ _ _ _ W1.drew
 go_wp2_with (first
  | (go_at_call 43; refine HCT.out.mono ?_; rintro e w2 ⟨rfl,hb2⟩; have HB2 := hQ_ hb2; have HV2 := hQ_ ((HV1.out.below ((Below.refl _ _).drew)).below hb2); obtain ⟨m0,m1,m2,m3,m4,_⟩ := HV2.out.cells; have HTR := hQ_ (tnrange x y HV2.out.shown hs); clear hb2)
  | (go_at_call 44; refine HTR.out.mono ?_; rintro e w3 ⟨v,rfl,ho,hb3⟩; have HO := hQ_ ho; have HB3 := hQ_ hb3; clear ho hb3))
 go_ret
 have hd : Did g (.slice A G.length c) w w2 := ((((Did.refl g _ w).below HB1.out).below ((Below.refl _ _).drew)).below HB2.out)
 have hz : w.heap.size ≤ w2.heap.size := hd.chg.size
 exact ⟨_,_,rfl,So.lower HO.out hz,HV2.out.below HB3.out,hd.below HB3.out,.inl rfl⟩
theorem VC.app {x y : ByteArray} {w3 : World} {o : Obj} {rg' : Value} (h : VC w g b sh wt rd rg B S W R G) (hg' : (w.alloc o).drew.grownBy w3 rg.ownBlock) (ho : So rgE 97 w3 0 rg' (G.length + 1) (G ++ [(x,y)])) : Blk w3 g #[b,sh,wt,rd,rg] 73 ∧ VC (w3.setCell ⟨g,4,none⟩ rg') g b sh wt rd rg' B S W R (G ++ [(x,y)]) ∧ Did g rg w (w3.setCell ⟨g,4,none⟩ rg') := by
 have hg : (w.alloc o).grownBy w3 rg.ownBlock := ⟨hg'.os,hg'.tape,hg'.output,hg'.size,hg'.block⟩
 have hb : Below w.heap.size w (w.alloc o) := bW_
 have h1 := h.below hb
 have k1 : Kept (w.alloc o) w3 := Kept.of_grown h1.rgs hg (by decide)
 have hblk : Blk w3 g #[b,sh,wt,rd,rg] 73 := h1.rgs.stays hg h1.blk (by decide)
 have k2 : Kept w3 (w3.setCell ⟨g,4,none⟩ rg') := ViewD.kept_set hblk (by decide) 4 rg'
 have k := ViewD.Kept.trans k1 k2
 have ap := So.apart ho hblk (by decide)
 have ho' : So rgE 97 (w3.setCell ⟨g,4,none⟩ rg') 0 rg' (G.length + 1) (G ++ [(x,y)]) := So.chg (S := fun q => q = g) ho ((Chg.refl (fun q => q = g) w3).own 4 rg') (fun q hq e => ap q hq e)
 exact ⟨hblk,⟨hblk.set_ 4 rg',h1.base.keep k,h1.shown.keep k,h1.wr.keep k,h1.read.keep k,by rw [List.length_append]; exact ho'⟩,⟨((Chg.of_below hb).trans (Chg.of_grown (S := own g rg) hg (fun k hk => .inl (.inr hk)))).setCell (.inl (.inl rfl)) _,ViewD.Kept.trans (Kept.of_below hb) k⟩⟩
theorem rg_next {w3 : World} {x y : ByteArray} {gg cap n : Nat} (hn : G.length = n) (h : w3.ownsRow 0 97 2 (.slice (some ⟨gg,0,none⟩) (n + 1) cap) (n + 1) (flat rgE G ++ [.string x,.string y])) : So rgE 97 w3 0 (.slice (some ⟨gg,0,none⟩) (n + 1) cap) (G.length + 1) (G ++ [(x,y)]) := by
 subst hn
 refine ⟨by simp,?_⟩
 rw [flat_append]
 exact h
theorem range_new (x y : ByteArray) (h : VC w g b sh wt rd rg B S W R G) (hs : S.length ≤ 50000) (hg : G.length ≤ 50000) (hk : kl x y = true) (hR : hasR x y G = false) :
 Calls Tryz.prog 25 #[.pointer (some ⟨g,0,none⟩),.string x,.string y] w (RangeR g b sh wt rd rg B S W R (G ++ [(x,y)]) (rangeL x y S) w) := by
 have f1 : Op.bytesLess x.toList y.toList = true := hk
 have HV := hQ_ h
 have HRR := hQ_ hR
 have hb1 := bN_ w (.cells #[.string x,.string y] 97)
 have HB1 := hQ_ hb1
 obtain ⟨W1,hW1⟩ : ∃ W1,w.alloc (.cells #[.string x,.string y] 97) = W1 := ⟨_,rfl⟩
 have HBX := Blk.new_ w #[.string x,.string y] 97
 rw [hW1] at HB1 HBX
 have HV1 := hQ_ (HV.out.below HB1.out)
 obtain ⟨k0,k1,k2,k3,k4,_⟩ := HV1.out.cells
 obtain ⟨x0,x1⟩ := cC2 HBX
 have HX := hQ_ HBX
 have E1 := hQ_ hW1
 clear h hk hR hb1 hW1 HBX
 obtain ⟨A,c,e,_,_,h0⟩ := Tx.So.head HV.out.rgs
 obtain ⟨n,hn⟩ : ∃ n,G.length = n := ⟨_,rfl⟩
 have HN := hQ_ hn
 have E := hQ_ e
 rw [hn] at hg
 rw [e,hn] at k4
 have HCT := hQ_ (contains_calls A n c G x y W1.drew (So.sl (by have := So.below HV1.out.rgs ((Below.refl _ _).drew : Below W1.heap.size W1 W1.drew); rw [e,hn] at this; exact this)) (by omega))
 rw [HRR.out] at HCT
 clear hn e
 go_enter Tryz.func25,Tryz.ntmps25
 go_upto_region 4 with (fail)
 change Code.wp _ _ _ _ (w.alloc (.cells #[.string x,.string y] 97))
 rw [E1.out]
 have y4 : W1.drew.cell? ⟨g,4,none⟩ = some (.slice A n c) := k4
 have y0 : W1.drew.cell? ⟨w.heap.size,0,none⟩ = some (.string x) := x0
 have y1 : W1.drew.cell? ⟨w.heap.size,1,none⟩ = some (.string y) := x1
 go_still_tail 5,(by kernel_rfl)
 change wpList _ _ _ _ _ W1.drew
 go_upto_region 5 with (go_at_call 43; refine HCT.out.mono ?_; rintro e w2 ⟨rfl,hb2⟩; have HB2 := hQ_ hb2; have HV2 := hQ_ ((HV1.out.below ((Below.refl _ _).drew)).below hb2); have HX2 := hQ_ (((HX.out.below ((Below.refl _ _).drew)).below hb2)); clear hb2)
 have m4 : w2.cell? ⟨g,4,none⟩ = some (.slice A n c) := by have h := HV2.out.cells.2.2.2.2.1; rw [E.out,HN.out] at h; exact h
 have m4a : (w2.alloc (.cells #[.string x,.string y] 97)).cell? ⟨g,4,none⟩ = some (.slice A n c) := by rw [World.cell?_alloc_lt _ _ ⟨g,4,none⟩ HV2.out.lt,m4]
 have z0 := cC2 HX2.out
 have HOWN : Hid (w2.ownsRow 0 97 2 (.slice A n c) n (flat rgE G)) := hQ_ (by have h := HV2.out.rgs.2; rw [E.out,HN.out] at h; exact h)
 obtain ⟨i0,hi0,hz0,hz1,hz2⟩ := info_parts info_rg
 go_region_law (first
  | (refine step_append_lies _ (by rfl) _ _ _ (by rfl) 0 97 i0 _ 2 32 Tryz.underlying71 hi0 hz0 hz1 hz2 rfl (by omega) (.slice A n c) n _ (by rfl) ((HOWN.out.alloc _).drew)
      ⟨w2.heap.size,0,none⟩ 1 1 [.string x,.string y] (by rfl) (by rfl) (World.news_of_block (cs := #[.string x,.string y]) (t := 97) (fr := (0,0)) (heap_alloc_new w2 _)) (by simp [Value.oneCell'])
      (by omega) (by unfold maxLen; omega) (by omega) (by simp) (w2.heap.size + 1) (by simp) ?_; intro gg cap w3 hown3 hgrow hat hlt'; have HAP := hQ_ (VC.app HV2.out (by rw [E.out,HN.out]; exact hgrow) (rg_next HN.out hown3)); have HAT := hQ_ hat; have n4 : w3.cell? ⟨g,4,none⟩ = some (.slice A n c) := (by have h := HAP.out.1.cell 4; rw [E.out,HN.out] at h; exact h); have q4 := HAP.out.1.frozen 4; clear hown3 hgrow hat hlt'))
 all_goals
  have HV4 := hQ_ HAP.out.2.1
  obtain ⟨l0,l1,l2,l3,l4,_⟩ := HV4.out.cells
  have HTR := hQ_ (tnrange x y HV4.out.shown hs)
  go_wp2_with (go_at_call 44; refine HTR.out.mono ?_; rintro e w5 ⟨v,rfl,ho,hb5⟩; have HO := hQ_ ho; have HB5 := hQ_ hb5; clear ho hb5)
  go_ret
  have hd : Did g rg w w2 := ((((Did.refl g _ w).below HB1.out).below ((Below.refl _ _).drew)).below HB2.out)
  have hd2 := HAP.out.2.2
  have hd3 : Did g rg w _ := ⟨hd.chg.trans hd2.chg,ViewD.Kept.trans hd.kept hd2.kept⟩
  refine ⟨_,_,rfl,So.lower HO.out hd3.chg.size,HV4.out.below HB5.out,hd3.below HB5.out,?_⟩
  rcases HAT.out with h | h
  ·left
   rw [E.out,HN.out]
   exact h.symm
  ·right
   exact ⟨gg,rfl,by have := hd.chg.size; omega⟩
end Go.Proofs.YtogdjbhjgbnicaaGreatDoor.ViewKw