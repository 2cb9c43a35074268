import Derived.WalkSmall
import Derived.Test.YtlblfpacnegmlaaSq
import Derived.Test.YtlblfpacnegmlaaViewKn
import Derived.Test.YtlblfpacnegmlaaViewKm
import Derived.Test.YtlblfpacnegmlaaViewS
import Derived.Test.YtlblfpacnegmlaaTx
import Derived.Test.YtlblfpacnegmlaaViewD
set_option maxHeartbeats 16000000
set_option linter.unusedVariables false
set_option linter.unusedSimpArgs false
set_option maxRecDepth 100000
namespace Go.Proofs.Ytlblfpacnegmlaa.ViewKr
open Go.RowKit
open Byte KeysM TreeM ViewM ViewKm ViewKn Own Lst Chg TreeR TreeL TreeG TreeH Ho ViewR ViewS
theorem tl_ne {a b : ByteArray} (h : a ≠ b) : a.toList ≠ b.toList := by simpa using TreeQ.neq_false h
theorem eq2 (a b c d : ByteArray) (w : World) : (Op.equalIn 10000 47 (.agg #[.string a,.string b]) (.agg #[.string c,.string d])).run Try.prog w = .ok (decide (a = c) && decide (b = d)) w := by
 have u5 := Try.underlying9
 have a5 := Try.isAgg9
 have z5 := Try.sizeOf9
 rw [show (10000 : Nat) = 9999 + 1 from rfl,Op.equalIn]
 simp only [Sem.run_bind,run_underlying Try.underlying47,Result.andThen_ok]
 simp only [Std.Legacy.Range.forIn_eq_forIn_range',Std.Legacy.Range.size,Nat.sub_zero,Nat.add_sub_cancel,Nat.div_one,List.range'_succ,List.range'_zero,List.forIn_cons,List.forIn_nil]
 go_simp
 by_cases h1 : a = c
 ·subst h1
  by_cases h2 : b = d
  ·subst h2
   simp
  ·simp [h2,tl_ne h2]
 ·by_cases h2 : b = d
  ·subst h2
   simp [h1,tl_ne h1]
  ·simp [h1,h2,tl_ne h1]
theorem rg_cells {w : World} {b o k : Nat} {x : ByteArray × ByteArray} (h : w.rangeAt b (o + k * rgE.size) (rgE.cells x)) : w.cell? ⟨b,o + k * 2,none⟩ = some (.string x.1) ∧ w.cell? ⟨b,o + k * 2 + 1,none⟩ = some (.string x.2) := ⟨h 0 _ rfl,h 1 _ rfl⟩
def HasR (x y : ByteArray) (L : List (ByteArray × ByteArray)) (w : World) (e : Ending) (w' : World) : Prop := ∃ i : Int,e = .returned (.int .i64 i) ∧ decide (0 ≤ i) = hasR x y L ∧ Below w.heap.size w w'
theorem index_calls (A : Option Addr) (n c : Nat) (L : List (ByteArray × ByteArray)) (x y : ByteArray) (w : World) (hl : Sl rgE w A n L) (hn : n ≤ 100000) :
 Calls Try.prog 55 #[.slice A n c,.agg #[.string x,.string y]] w (HasR x y L w) := by
 have HL := hQ_ hl
 clear hl
 have HX := hQ_ (Blk.new_ w #[.string x,.string y] 47)
 have hb0 := bX_ HX.out
 have HB0 := hQ_ hb0
 clear hb0
 go_enter Try.func55,Try.ntmps55
 go_wp2
 go_loopw [8] (fun i wr => ∃ k : Nat,k ≤ n ∧ i = .int .i64 k ∧ Hid (∀ j p,j < k → L[j]? = some p → ¬ (p.1 = x ∧ p.2 = y)) ∧ Hid (Below (w.alloc (.cells #[.string x,.string y] 47)).heap.size (w.alloc (.cells #[.string x,.string y] 47)) wr)) (fun i _ => n - (intOf i).toNat)
 case atStart => exact ⟨0,Nat.zero_le _,rfl,hQ_ (fun j p hj => by omega),hQ_ (Below.refl _ _)⟩
 case round =>
  obtain ⟨k,hk,rfl,HNO,HB⟩ := hrel
  by_cases hlt : k < n
  ·obtain ⟨p,g,o,hp,rfl,hg,hcl⟩ := (HL.out.below (keeps HB0.out HB.out)).get k hlt
   obtain ⟨c1,c2⟩ := rg_cells hcl
   have d1 : wr.cell? ⟨w.heap.size,0,none⟩ = some (.string x) := (HX.out.below HB.out).cell 0
   have d2 : wr.cell? ⟨w.heap.size,1,none⟩ = some (.string y) := (HX.out.below HB.out).cell 1
   have HP := hQ_ hp
   have heq := eq2 x y p.1 p.2
   clear hp hcl
   by_cases hq : x = p.1 ∧ y = p.2
   ·have he : ∀ v,(Op.equalIn 10000 47 (.agg #[.string x,.string y]) (.agg #[.string p.1,.string p.2])).run Try.prog v = .ok true v := fun v => by rw [heq v,decide_eq_true hq.1,decide_eq_true hq.2]; rfl
    have HQ := hQ_ hq
    clear heq hq
    go_wp2
    go_quiet (fail)
    go_wp2_with fail
    go_ret
    exact ⟨_,rfl,by rw [has_yes HP.out HQ.out.1.symm HQ.out.2.symm]; exact decide_eq_true (by omega),below_drewN (keeps HB0.out HB.out) _⟩
   ·have he : ∀ v,(Op.equalIn 10000 47 (.agg #[.string x,.string y]) (.agg #[.string p.1,.string p.2])).run Try.prog v = .ok false v := fun v => by
     rw [heq v]
     congr 1
     rw [← Bool.not_eq_true,Bool.and_eq_true,decide_eq_true_eq,decide_eq_true_eq]
     exact hq
    have HNO2 : Hid (∀ j q,j < k + 1 → L[j]? = some q → ¬ (q.1 = x ∧ q.2 = y)) := hQ_ (fun j q hj hjq => by
     rcases Nat.lt_or_ge j k with h1 | h1
     ·exact HNO.out j q h1 hjq
     ·obtain rfl : j = k := by omega
      have := HP.out
      rw [hjq] at this
      injection this with this
      subst this
      exact fun h => hq ⟨h.1.symm,h.2.symm⟩)
    clear heq hq
    go_wp2
    go_quiet (fail)
    go_wp2_with fail
    go_roundw
    case rel => exact ⟨k + 1,by omega,by go_num,HNO2,hQ_ (below_drewN HB.out _)⟩
    case measure => simp [intOf]; omega
  ·obtain rfl : k = n := by omega
   go_wp2_with fail
   go_ret
   exact ⟨_,rfl,by rw [has_no (fun j p hj hp => HNO.out j p (by rw [← HL.out.1]; exact hj) hp)]; exact decide_eq_false (by omega),keeps HB0.out HB.out⟩
theorem contains_calls (A : Option Addr) (n c : Nat) (L : List (ByteArray × ByteArray)) (x y : ByteArray) (w : World) (hl : Sl rgE w A n L) (hn : n ≤ 100000) :
 Calls Try.prog 41 #[.slice A n c,.agg #[.string x,.string y]] w fun e w' => e = .returned (.bool (hasR x y L)) ∧ Below w.heap.size w w' := by
 have HX := hQ_ (Blk.new_ w #[.string x,.string y] 47)
 have hb0 := bX_ HX.out
 have HI := hQ_ (index_calls A n c L x y _ (hl.below hb0) hn)
 have HB0 := hQ_ hb0
 clear hb0 hl
 go_enter Try.func41,Try.ntmps41
 go_wp2_with (first
  | ((with_reducible refine pick (some 6) ?_); refine load_blk rfl 47 _ rfl w.heap.size rfl 47 #[.string x,.string y] _ HX.out Try.underlying47 rfl (by kernel_rfl) ?_)
  | (go_at_call 55; refine HI.out.mono ?_; rintro e w1 ⟨i,rfl,hi,hb1⟩; have HH := hQ_ hi; have HB1 := hQ_ hb1; clear hi hb1))
 go_ret
 exact ⟨congrArg Ending.returned (congrArg Value.bool HH.out),keeps HB0.out HB1.out⟩
def CloneR (L : List (ByteArray × ByteArray)) (w : World) (e : Ending) (w' : World) : Prop := ∃ v,e = .returned v ∧ So rgE 47 w' w.heap.size v L.length L ∧ Below w.heap.size w w'
theorem clone_calls (A : Option Addr) (n c : Nat) (L : List (ByteArray × ByteArray)) (w : World) (hl : Sl rgE w A n L) (hn : n ≤ 100000) (h0 : A = none → c = 0) :
 Calls Try.prog 31 #[.slice A n c] w (CloneR L w) := by
 have HL := hQ_ hl
 have HC := hQ_ h0
 clear hl h0
 cases A with
 | none =>
   have hn0 : n = 0 := by
    rcases Nat.eq_zero_or_pos n with h | h
    ·exact h
    ·obtain ⟨_,_,_,_,e,_⟩ := HL.out.get 0 h
     cases e
   subst hn0
   have hL : L = [] := List.eq_nil_of_length_eq_zero HL.out.1
   subst hL
   have hc : c = 0 := HC.out rfl
   subst hc
   have hq : ∀ v,(binOp .eql 23 (.slice none 0 0) (.slice none 0 0)).run Try.prog v = .ok (.bool true) v := fun v => by kernel_rfl
   go_enter Try.func31,Try.ntmps31
   go_wp2_with fail
   go_ret
   exact ⟨_,rfl,So.nil_ _ _ _ _,Below.refl _ _⟩
 | some a =>
   have hq : ∀ v,(binOp .eql 23 (.slice (some a) n c) (.slice none 0 0)).run Try.prog v = .ok (.bool false) v := fun v => by kernel_rfl
   have hb0 := bN_ w (.cells #[] 47)
   have HB0 := hQ_ hb0
   have HL2 := hQ_ (HL.out.below hb0)
   have HO := hQ_ (So.new_ rgE 47 w (base := w.heap.size) (Nat.le_refl _))
   clear hb0
   go_enter Try.func31,Try.ntmps31
   go_wp2_with ((with_reducible refine pick (some 7) ?_); refine Tx.wpList_append_any rgE 47 rfl _ _ _ rfl Try.underlying23 info_rg rfl w.heap.size _ _ _ rfl HO.out (some a) n c L rfl HL2.out (fun h => by cases h) _ (Nat.zero_add n) _ (List.nil_append L) (by unfold maxLen; omega) (by omega) (by simp) ?_; intro v' w2 ho2 hg2 hat2)
   have HO2 := hQ_ ho2
   have HB2 : Hid (Below w.heap.size w w2) := hQ_ (HB0.out.grown hg2 (by simp) (fun g hg => (HO.out.lt hg).1))
   have HLN := hQ_ HL.out.1
   clear ho2 hg2 hat2
   go_wp2_with fail
   go_ret
   refine ⟨_,rfl,?_,HB2.out⟩
   rw [HLN.out]
   exact HO2.out
def KeysR (L : List Pr) (w : World) (e : Ending) (w' : World) : Prop := ∃ v,e = .returned v ∧ So rdE 9 w' w.heap.size v L.length L ∧ Below w.heap.size w w'
theorem pair_new (w : World) (p : Pr) : (w.alloc (.cells #[.string p.key,.string p.value,.bool p.gone] 49)).cell? ⟨w.heap.size,0,none⟩ = some (.string p.key) := (Blk.new_ w _ _).cell 0
theorem key_new (w : World) (p : Pr) : Sl rdE ((w.alloc (.cells #[.string p.key,.string p.value,.bool p.gone] 49)).alloc (.cells #[.string p.key] 9)) (some ⟨w.heap.size + 1,0,none⟩) 1 [p] := by
 have h := Sl.new_ rdE (w.alloc (.cells #[.string p.key,.string p.value,.bool p.gone] 49)) 9 p #[.string p.key] rfl
 have e : (w.alloc (.cells #[.string p.key,.string p.value,.bool p.gone] 49)).heap.size = w.heap.size + 1 := by simp
 rw [e] at h
 exact h
theorem two_new {w : World} {a b : Obj} {B : Nat} (hb : Below B w w) : Below w.heap.size w ((w.alloc a).alloc b) := (bW_).alloc (by simp) _
theorem keysof_calls (t : Value) (L : List Pr) (w : World) (ht : TN w t L) (hn : L.length ≤ 30000) :
 Calls Try.prog 30 #[t] w (KeysR L w) := by
 have HT := hQ_ ht
 obtain ⟨n,hln⟩ : ∃ n,L.length = n := ⟨_,rfl⟩
 have hlen := tnlen ht (by omega)
 rw [hln] at hn hlen
 have HLN := hQ_ hln
 have HLEN := hQ_ hlen
 clear ht hln hlen
 go_enter Try.func30,Try.ntmps30
 go_wp2_with (go_at_call 44; refine HLEN.out.mono ?_; rintro e w1 ⟨rfl,rfl⟩)
 go_loopw [3,9] (fun v i wr => ∃ k : Nat,k ≤ n ∧ i = .int .i64 k ∧ Hid (So rdE 9 wr w.heap.size v k (L.take k)) ∧ Hid (Below w.heap.size w wr)) (fun _ i _ => n - (intOf i).toNat)
 case atStart => exact ⟨0,Nat.zero_le _,rfl,hQ_ (So.nil_ _ _ _ _),hQ_ (Below.refl _ _)⟩
 case round =>
  obtain ⟨k,hk,rfl,HO,HB⟩ := hrel
  by_cases hlt : k < n
  ·obtain ⟨p,hp⟩ : ∃ p,L[k]? = some p := ⟨_,List.getElem?_eq_getElem (by rw [HLN.out]; exact hlt)⟩
   have HAT := hQ_ (tnat (HT.out.below HB.out) (by rw [HLN.out]; omega) hp)
   have HTK := hQ_ (TreeM.take_next hp)
   clear hp
   go_wp2_with (first
    | (go_at_call 45; refine HAT.out.mono ?_; rintro e w2 ⟨rfl,hb2⟩; have HB2 := hQ_ (keeps HB.out hb2); have HO2 := hQ_ (HO.out.below hb2); have HC := hQ_ (pair_new w2 p); have c0 := pair_new w2 p; have HB3 := hQ_ (keeps HB2.out (two_new (a := .cells #[.string p.key,.string p.value,.bool p.gone] 49) (b := .cells #[.string p.key] 9) (Below.refl w2.heap.size w2))); have HO3 := hQ_ (HO2.out.below (two_new (a := .cells #[.string p.key,.string p.value,.bool p.gone] 49) (b := .cells #[.string p.key] 9) (Below.refl w2.heap.size w2))); clear hb2)
    | ((with_reducible refine pick (some 22) ?_); refine wpList_append_lst rdE 9 rfl _ _ _ rfl Try.underlying22 info_rd rfl w.heap.size _ _ _ rfl HO3.out (w2.heap.size + 1) 0 1 1 [p] rfl (key_new w2 p) _ rfl _ HTK.out.symm (by unfold maxLen; omega) (by omega) HB3.out.size ?_; intro v' w4 ho4 hg4 _ _; have HO4 := hQ_ ho4; have HB4 := hQ_ (HB3.out.grown hg4 HB3.out.size (fun g hg => (HO3.out.lt hg).1)); clear ho4 hg4))
   go_roundw
   case rel => exact ⟨k + 1,by omega,by go_num,HO4,HB4⟩
   case measure => simp [intOf]; omega
  ·obtain rfl : k = n := by omega
   go_wp2_with fail
   go_ret
   refine ⟨_,rfl,?_,HB.out⟩
   have h := HO.out
   rw [List.take_of_length_le (by rw [HLN.out]; exact Nat.le_refl _)] at h
   rw [HLN.out]
   exact h
end Go.Proofs.Ytlblfpacnegmlaa.ViewKr
namespace Go.Proofs.Ytlblfpacnegmlaa.ViewKs
open Go.RowKit
open Byte KeysM TreeM ViewM ViewKm ViewKn ViewKr Own Lst Chg TreeR TreeL TreeG TreeH Ho ViewR
theorem So.chg {α : Type} {e : Enc α} {T : TypeId} {w w' : World} {base n : Nat} {v : Value} {L : List α} {S : Nat → Prop} (h : So e T w base v n L) (k : Chg S w w') (hn : ∀ g,v.ownBlock = some g → ¬ S g) : So e T w' base v n L := by
 obtain ⟨h1,h2,h4⟩ := h
 refine ⟨h1,h2,?_⟩
 rcases h4 with h4 | ⟨g,cap,cur,e1,e2,e3,rest⟩
 ·exact .inl h4
 ·have hlt : g < w.heap.size := by
   rcases Nat.lt_or_ge g w.heap.size with h | h
   ·exact h
   ·rw [Array.getElem?_eq_none h] at e3
    cases e3
  exact .inr ⟨g,cap,cur,e1,e2,(k.block g hlt (hn g (by rw [e1]; rfl))).trans e3,rest⟩
theorem So.apart {α : Type} {e : Enc α} {T U : TypeId} {w : World} {base n g : Nat} {v : Value} {L : List α} {cs : Array Value} (h : So e T w base v n L) (hb : Blk w g cs U) (hne : U ≠ T) : ∀ k,v.ownBlock = some k → k ≠ g := fun k hk e => by
 subst e
 rcases h.2.2 with ⟨h1,_⟩ | ⟨g',cap,cur,h1,_,h3,_⟩
 ·rw [h1] at hk
  cases hk
 ·rw [h1] at hk
  have : g' = k := by injection hk
  subst this
  unfold Blk at hb
  rw [hb] at h3
  injection h3 with h3
  injection h3 with _ h3
  exact hne h3
structure VC (w : World) (g : Nat) (b sh wt rd rg : Value) (B S W R : List Pr) (G : List (ByteArray × ByteArray)) : Prop where
 blk : Blk w g #[b,sh,wt,rd,rg] 69
 base : TN w b B
 shown : TN w sh S
 wr : TN w wt W
 read : TN w rd R
 rgs : So rgE 47 w 0 rg G.length G
section
variable {w w' : World} {g : Nat} {b sh wt rd rg : Value} {B S W R : List Pr} {G : List (ByteArray × ByteArray)}
theorem VC.apart (h : VC w g b sh wt rd rg B S W R G) : ∀ k,rg.ownBlock = some k → k ≠ g := So.apart h.rgs h.blk (by decide)
theorem VC.lt (h : VC w g b sh wt rd rg B S W R G) : g < w.heap.size := h.blk.lt
theorem VC.stay {T : Nat → Prop} (h : VC w g b sh wt rd rg B S W R G) (c : Chg T w w') (k : Kept w w') (h1 : ¬ T g) (h2 : ∀ k,rg.ownBlock = some k → ¬ T k) : VC w' g b sh wt rd rg B S W R G :=
 ⟨ViewD.blk_chg h.blk c h1,h.base.keep k,h.shown.keep k,h.wr.keep k,h.read.keep k,So.chg h.rgs c h2⟩
theorem VC.below (h : VC w g b sh wt rd rg B S W R G) (hb : Below w.heap.size w w') : VC w' g b sh wt rd rg B S W R G :=
 ⟨h.blk.below hb,h.base.below hb,h.shown.below hb,h.wr.below hb,h.read.below hb,h.rgs.below hb⟩
theorem VC.cells (h : VC w g b sh wt rd rg B S W R G) : w.cell? ⟨g,0,none⟩ = some b ∧ w.cell? ⟨g,1,none⟩ = some sh ∧ w.cell? ⟨g,2,none⟩ = some wt ∧ w.cell? ⟨g,3,none⟩ = some rd ∧ w.cell? ⟨g,4,none⟩ = some rg ∧ (∀ i,w.frozen? ⟨g,i,none⟩ = false) :=
 ⟨h.blk.cell 0,h.blk.cell 1,h.blk.cell 2,h.blk.cell 3,h.blk.cell 4,h.blk.frozen⟩
theorem kset (h : VC w g b sh wt rd rg B S W R G) (i : Nat) (u : Value) : Kept w (w.setCell ⟨g,i,none⟩ u) := ViewD.kept_set h.blk (by decide) i u
theorem rset (h : VC w g b sh wt rd rg B S W R G) (i : Nat) (u : Value) : So rgE 47 (w.setCell ⟨g,i,none⟩ u) 0 rg G.length G :=
 So.chg h.rgs ((Chg.refl (fun k => k = g) w).own i u) (fun k hk e => h.apart k hk e)
theorem VC.put3 (h : VC w g b sh wt rd rg B S W R G) {u : Value} {R' : List Pr} (hu : TN w u R') : VC (w.setCell ⟨g,3,none⟩ u) g b sh wt u rg B S W R' G :=
 ⟨h.blk.set_ 3 u,h.base.keep (kset h 3 u),h.shown.keep (kset h 3 u),h.wr.keep (kset h 3 u),hu.keep (kset h 3 u),rset h 3 u⟩
def own (g : Nat) (rg : Value) : Nat → Prop := fun k => k = g ∨ rg.ownBlock = some k
structure Did (g : Nat) (rg : Value) (w w' : World) : Prop where
 chg : Chg (own g rg) w w'
 kept : Kept w w'
theorem Did.refl (g : Nat) (rg : Value) (w : World) : Did g rg w w := ⟨Chg.refl _ _,fun _ _ _ _ _ h => h⟩
theorem Did.below {w1 : World} (d : Did g rg w w1) (hb : Below w1.heap.size w1 w') : Did g rg w w' := ⟨d.chg.trans (Chg.of_below hb),ViewD.Kept.trans d.kept (Kept.of_below hb)⟩
theorem Did.set {w1 : World} (d : Did g rg w w1) (h : VC w1 g b sh wt rd rg B S W R G) (i : Nat) (u : Value) : Did g rg w (w1.setCell ⟨g,i,none⟩ u) :=
 ⟨d.chg.setCell (.inl (.inl rfl)) u,ViewD.Kept.trans d.kept (kset h i u)⟩
end
variable {w : World} {g : Nat} {b sh wt rd rg : Value} {B S W R : List Pr} {G : List (ByteArray × ByteArray)}
theorem look_calls (k : ByteArray) (h : VC w g b sh wt rd rg B S W R G) (hl : S.length ≤ 50000) :
 Calls Try.prog 40 #[.pointer (some ⟨g,0,none⟩),.string k] w fun e w' => e = .returned (GotV (getL k S)) ∧ w = w' := by
 have HG := hQ_ (tnget k h.shown hl)
 obtain ⟨_,c1,_,_,_,_⟩ := h.cells
 clear h
 cases hG : getL k S with
 | none =>
   rw [hG] at HG
   go_enter Try.func40,Try.ntmps40
   go_wp2_with (go_at_call 54; refine HG.out.mono ?_; rintro e w1 ⟨rfl,rfl⟩; dsimp only [GotV])
   go_ret2
   exact ⟨rfl,rfl⟩
 | some p =>
   rw [hG] at HG
   go_enter Try.func40,Try.ntmps40
   go_wp2_with (go_at_call 54; refine HG.out.mono ?_; rintro e w1 ⟨rfl,rfl⟩; dsimp only [GotV])
   go_ret2
   exact ⟨rfl,rfl⟩
theorem get_calls (k : ByteArray) (h : VC w g b sh wt rd rg B S W R G) (hl : S.length ≤ 50000) (hr : R.length ≤ 50000) :
 Calls Try.prog 24 #[.pointer (some ⟨g,0,none⟩),.string k] w fun e w' => ∃ rd',e = .returned (GotV (getL k S)) ∧ VC w' g b sh wt rd' rg B S W (putL k ⟨#[]⟩ R) G ∧ Did g rg w w' := by
 have HS := hQ_ (tnset k ⟨#[]⟩ h.read hr)
 obtain ⟨_,c1,_,c3,_,f3⟩ := h.cells
 have HV := hQ_ h
 clear h f3
 obtain ⟨o,ho⟩ : ∃ o,getL k S = o := ⟨_,rfl⟩
 have HO := hQ_ ho
 clear ho
 go_enter Try.func24,Try.ntmps24
 go_wp2_with (go_at_call 39; refine HS.out.mono ?_; rintro e w1 ⟨rd',rfl,hrd,hb1⟩; obtain ⟨A1,rfl⟩ := hrd.form; have HV1 := hQ_ (HV.out.below hb1); have HV2 := hQ_ (HV1.out.put3 hrd); have HD := hQ_ (((Did.refl g rg w).below hb1).set HV1.out 3 (.pointer A1)); obtain ⟨k0,k1,k2,k3,k4,k5⟩ := HV1.out.cells; have f3 := k5 3; clear hrd hb1 k5)
 refine (look_calls k HV2.out hl).mono ?_
 rintro e w2 ⟨rfl,rfl⟩
 rw [HO.out]
 cases o with
 | none =>
   dsimp only [GotV]
   go_wp2_with fail
   go_ret2
   exact ⟨_,by rw [HO.out]; rfl,HV2.out,HD.out⟩
 | some p =>
   dsimp only [GotV]
   go_wp2_with fail
   go_ret2
   exact ⟨_,by rw [HO.out]; rfl,HV2.out,HD.out⟩
theorem reads_calls (h : VC w g b sh wt rd rg B S W R G) (hr : R.length ≤ 30000) :
 Calls Try.prog 15 #[.pointer (some ⟨g,0,none⟩)] w (KeysR R w) := by
 have HK := hQ_ (keysof_calls rd R w h.read hr)
 obtain ⟨_,_,_,c3,_,_⟩ := h.cells
 clear h
 go_enter Try.func15,Try.ntmps15
 go_wp2_with (go_at_call 30; refine HK.out.mono ?_; rintro e w1 ⟨v,rfl,ho,hb⟩; have HO := hQ_ ho; have HB := hQ_ hb; clear ho hb)
 go_ret
 exact ⟨_,rfl,HO.out,HB.out⟩
theorem ranges_calls (h : VC w g b sh wt rd rg B S W R G) (hr : G.length ≤ 2000) :
 Calls Try.prog 16 #[.pointer (some ⟨g,0,none⟩)] w (CloneR G w) := by
 obtain ⟨_,_,_,_,c4,_⟩ := h.cells
 obtain ⟨A,c,e,_,_,h0⟩ := Tx.So.head h.rgs
 have hs : Sl rgE w A G.length G := So.sl (by rw [← e]; exact h.rgs)
 have HK := hQ_ (clone_calls A G.length c G w hs (by omega) h0)
 rw [e] at c4
 clear h hs
 go_enter Try.func16,Try.ntmps16
 go_wp2_with (go_at_call 31; refine HK.out.mono ?_; rintro e w1 ⟨v,rfl,ho,hb⟩; have HO := hQ_ ho; have HB := hQ_ hb; clear ho hb)
 go_ret
 exact ⟨_,rfl,HO.out,HB.out⟩
end Go.Proofs.Ytlblfpacnegmlaa.ViewKs