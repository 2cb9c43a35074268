import Derived.Test.YtogdjbhjgbnicaaGreatDoorSq
import Derived.Test.YtogdjbhjgbnicaaGreatDoorOpsLooksMAW
import Derived.Test.YtogdjbhjgbnicaaGreatDoorTreeK
import Derived.Test.YtogdjbhjgbnicaaGreatDoorLst
import Derived.Laws.ResultCell
import Derived.Deep.Cut
import Derived.Deep.RegionLaw
import Derived.Test.YtogdjbhjgbnicaaGreatDoorOpsLooksMAS
import Derived.Deep.MidRow
set_option maxHeartbeats 16000000
set_option linter.unusedVariables false
set_option linter.unusedSimpArgs false
set_option maxRecDepth 100000
namespace Go.Proofs.YtogdjbhjgbnicaaGreatDoor.TreeG
open Go.RowKit
open Byte KeysM TreeM Own Lst TreeR TreeL TreeB TreeD TreeF TreeK TreeJ TreeQ
theorem results_row_tmp {P : Program} {fn : Func} {p u : Tmp} {ty : TypeId} (h : fn.results = #[.cell p ty,.tmp u]) (tmps : Array Value) (w : World) (g : Nat) (t : TypeId) (cs : Array Value) (fr : Nat × Nat) (d : TypeDesc)
 (hp : tmps.getD p undef = .pointer (some ⟨g,0,none⟩)) (x : Value) (hx : tmps.getD u undef = x) (hg : w.heap[g]? = some (.cells cs t fr))
 (hu : P.underlying ty = some d) (hd : (match d with | .struct _ | .array _ _ => true | _ => false) = true) (hi : (P.info? ty).map (·.size) = some cs.size) :
 (results fn tmps).run P w = .ok (.tuple #[.agg cs,x]) w := by
 subst hx
 rw [results_cell_tmp h]
 have hp' : tmps[p]?.getD undef = .pointer (some ⟨g,0,none⟩) := by simpa using hp
 simp [hp',asAddr,run_loadVar_row w g t ty cs fr d hg hu hd hi,Result.andThen]
theorem at_l {l r : Tt} {q : Pr} {j : Nat} (h : j < l.sz) : (Tt.nd l q r).ino[j]? = l.ino[j]? := List.getElem?_append_left (by rw [Tt.sz_ino]; exact h)
theorem at_m {l r : Tt} {q : Pr} : (Tt.nd l q r).ino[l.sz]? = some q := by
 show (l.ino ++ q :: r.ino)[l.sz]? = _
 rw [List.getElem?_append_right (by rw [Tt.sz_ino]; exact Nat.le_refl _),Tt.sz_ino,Nat.sub_self]
 rfl
theorem at_r {l r : Tt} {q : Pr} {j : Nat} (h : l.sz < j) : (Tt.nd l q r).ino[j]? = r.ino[j - l.sz - 1]? := by
 show (l.ino ++ q :: r.ino)[j]? = _
 rw [List.getElem?_append_right (by rw [Tt.sz_ino]; omega),Tt.sz_ino,show j - l.sz = (j - l.sz - 1) + 1 by omega,List.getElem?_cons_succ,Nat.add_sub_cancel]
theorem at_yes (b : Nat) (A : Option Addr) (t : Tt) (j : Nat) (w : World) (h : Vn w b A t) (hn : t.sz ≤ 60000) (hj : j < t.sz) (X : Pr) (hX : t.ino[j]? = some X) :
 Calls Tryz.prog 73 #[.pointer (some ⟨b,0,none⟩),.int .i64 (j : Nat)] w fun e w' => e = .returned (.tuple #[.agg #[.string X.key,.string X.value,.bool X.gone],.bool true]) ∧ Below w.heap.size w w' := by
 have HR := hQ_ (Blk.new_ w #[.string ⟨#[]⟩,.string ⟨#[]⟩,.bool false] 64)
 have hb1 := bX_ HR.out
 have HN := hQ_ (h.2.below hb1)
 have HT := hQ_ (h.1.below hb1)
 have HB1 := hQ_ hb1
 have HX := hQ_ hX
 obtain ⟨n,e1⟩ : ∃ n,t.sz = n := ⟨_,rfl⟩
 rw [e1] at hn hj
 have E1 := hQ_ e1
 have hjj : j < n := hj
 have HJ := hQ_ hjj
 have d1 : decide ((j : Int) < 0) = false := decide_eq_false (by omega)
 have d2 : decide ((n : Int) ≤ (j : Int)) = false := decide_eq_false (by omega)
 have d3 : decide (n ≤ j) = false := decide_eq_false (by omega)
 clear h hb1 e1 hX
 go_enter Tryz.func73,Tryz.ntmps73
 go_wp2_with (first
  | (go_at_call 74; refine (top_calls b A _ HT.out).mono ?_; rintro e w1 ⟨rfl,rfl⟩)
  | (go_at_call 96; refine (size_calls t A _ HN.out n E1.out).mono ?_; rintro e w1 ⟨rfl,rfl⟩))
 obtain ⟨W,hW⟩ : ∃ W,w.alloc (.cells #[.string ⟨#[]⟩,.string ⟨#[]⟩,.bool false] 64) = W := ⟨_,rfl⟩
 rw [hW] at HN HT HB1 HR ⊢
 clear hW d1 d2 d3
 go_loopg [1,6] t.sz (fun m i n wr => ∃ (t' : Tt) (A' : Option Addr) (k : Nat),i = .int .i64 k ∧ n = .pointer A' ∧ Hid (Nd W t' A') ∧ k < 60000 ∧ Hid (k < t'.sz) ∧ Hid (t'.ino[k]? = some X) ∧ Hid (t'.sz ≤ m) ∧ wr = W)
 case atStart => exact ⟨t,A,j,rfl,rfl,HN,by omega,hQ_ (by rw [E1.out]; exact HJ.out),HX,hQ_ (Nat.le_refl _),rfl⟩
 case round =>
  obtain ⟨t',A',k,rfl,rfl,HN',hk6,HK',HX',HM,rfl⟩ := hrel
  cases t' with
  | no => exact absurd HK'.out (by simp [Tt.sz])
  | nd l q r =>
    obtain ⟨d,C,D,rfl,hk,hl,hr⟩ := HN'.out
    have c3 := cZ3 hk
    have c4 := cZ4 hk
    have c0 := cC3 hk
    have HL := hQ_ hl
    have HRR := hQ_ hr
    obtain ⟨n1,hn1⟩ : ∃ n,l.sz = n := ⟨_,rfl⟩
    have HN1 := hQ_ hn1
    have hk7 := HK'.out
    simp only [Tt.sz] at hk7
    clear hk hl hr hj hjj
    rcases (show k < n1 ∨ k = n1 ∨ n1 < k by omega) with q1 | q1 | q1
    ·have d1 : decide ((k : Int) < (n1 : Int)) = true := decide_eq_true (by omega)
     have HX2 := hQ_ ((at_l (q := q) (r := r) (by rw [hn1]; exact q1)).symm.trans HX'.out)
     have HK2 : Hid (k < l.sz) := hQ_ (by rw [hn1]; exact q1)
     clear hn1 hk7
     go_wp2_with (go_at_call 96; refine (size_calls l C _ HL.out n1 HN1.out).mono ?_; rintro e w1 ⟨rfl,rfl⟩)
     go_roundg l.sz
     case rel => exact ⟨l,_,k,rfl,rfl,HL,hk6,HK2,HX2,hQ_ (Nat.le_refl _),rfl⟩
     case measure => have := HM.out; simp only [Tt.sz] at this; omega
    ·subst q1
     have hX : q = X := by
      have := HX'.out
      rw [← hn1,at_m] at this
      injection this
     subst hX
     have d1 : decide ((k : Int) < (k : Int)) = false := decide_eq_false (by omega)
     clear hn1 hk7
     go_wp2_with (first
      | (go_at_call 96; refine (size_calls l C _ HL.out k HN1.out).mono ?_; rintro e w1 ⟨rfl,rfl⟩)
      | ((with_reducible refine pick none ?_); refine store_blk rfl 64 _ _ rfl w.heap.size #[.string q.key,.string q.value,.bool q.gone] rfl rfl 64 #[.string ⟨#[]⟩,.string ⟨#[]⟩,.bool false] HR.out info_pair3 rfl (by simp [Value.oneCell']) ?_; intro w5 hk5 hg5))
     exact bodyPost_ret (v := .tuple #[.agg #[.string q.key,.string q.value,.bool q.gone],.bool true]) (results_row_tmp rfl _ _ w.heap.size 64 _ (0,0) _ rfl _ rfl hk5 Tryz.underlying64 rfl info_pair3) rfl ⟨rfl,HB1.out.grown hg5 (by have := HR.out.lt; omega) (fun g hv => by injection hv with hv; omega)⟩
    ·have d1 : decide ((k : Int) < (n1 : Int)) = false := decide_eq_false (by omega)
     have d2 : decide ((n1 : Int) < (k : Int)) = true := decide_eq_true (by omega)
     obtain ⟨k2,hk2⟩ : ∃ k2 : Nat,k = k2 + n1 + 1 := ⟨k - n1 - 1,by omega⟩
     have HX2 : Hid (r.ino[k2]? = some X) := hQ_ (by
      have := HX'.out
      rw [at_r (by rw [hn1]; exact q1),hn1,show k - n1 - 1 = k2 by omega] at this
      exact this)
     have HK2 : Hid (k2 < r.sz) := hQ_ (by omega)
     have HKK := hQ_ hk2
     have hle : k2 ≤ k := by omega
     clear hn1 hk7 hk2
     go_wp2_with (go_at_call 96; refine (size_calls l C _ HL.out n1 HN1.out).mono ?_; rintro e w1 ⟨rfl,rfl⟩)
     go_roundg r.sz
     case rel => exact ⟨r,_,k2,by have := HKK.out; congr 1; omega,rfl,HRR,by omega,HK2,HX2,hQ_ (Nat.le_refl _),rfl⟩
     case measure => have := HM.out; simp only [Tt.sz] at this; omega
def TRep (w : World) (v : Value) (L : List Pr) (h : Nat) : Prop := ∃ b A t,v = .pointer (some ⟨b,0,none⟩) ∧ Vn w b A t ∧ t.ino = L ∧ Rise L ∧ t.Avl ∧ t.ht = h
theorem vn_new {W : World} {A : Option Addr} {t : Tt} (h : Nd W t A) : Vn (W.alloc (.cells #[.pointer A] 76)) W.heap.size A t := ⟨Blk.new_ _ _ _,h.below (bW_)⟩
theorem new_calls (w : World) : Calls Tryz.prog 10 #[] w fun e w' => ∃ v h,e = .returned v ∧ TRep w' v [] h ∧ Below w.heap.size w w' := by
 have H : Calls Tryz.prog 10 #[] w fun e w' => e = .returned (.pointer (some ⟨w.heap.size,0,none⟩)) ∧ w' = w.alloc (.cells #[.pointer none] 76) := by
  go_enter Tryz.func10,Tryz.ntmps10
  go_wp2_with fail
  go_ret
  exact ⟨rfl,rfl⟩
 refine H.mono ?_
 rintro e w' ⟨rfl,rfl⟩
 exact ⟨_,0,rfl,⟨_,none,.no,rfl,vn_new rfl,rfl,List.Pairwise.nil,trivial,rfl⟩,bW_⟩
def VnR (t : Tt) (w : World) (e : Ending) (w' : World) : Prop := ∃ b A,e = .returned (.pointer (some ⟨b,0,none⟩)) ∧ Vn w' b A t ∧ Below w.heap.size w w'
theorem setm_calls (b : Nat) (A : Option Addr) (t : Tt) (k x : ByteArray) (w : World) (h : Vn w b A t) (hn : t.sz ≤ 60000) : Calls Tryz.prog 148 #[.pointer (some ⟨b,0,none⟩),.string k,.string x] w (VnR (t.set ⟨k,x,false⟩) w) := by
 have HN := hQ_ h.2
 have HT := hQ_ h.1
 have HS := hQ_ hn
 clear h hn
 go_enter Tryz.func148,Tryz.ntmps148
 go_wp2_with (first
  | (go_at_call 74; refine (top_calls b A _ HT.out).mono ?_; rintro e w1 ⟨rfl,rfl⟩)
  | (go_at_call 164; refine (set_calls ⟨k,x,false⟩ t A _ HS.out HN.out).mono ?_; rintro e w2 ⟨A2,rfl,hn2,hb2⟩; have HN2 := hQ_ hn2; have HB2 := hQ_ hb2; clear hn2 hb2))
 go_ret
 exact ⟨_,_,rfl,vn_new HN2.out,HB2.out.alloc HB2.out.size _⟩
theorem cutm_yes (b : Nat) (A : Option Addr) (t : Tt) (k : ByteArray) (w : World) (h : Vn w b A t) (hr : Rise t.ino) (hn : t.sz ≤ 60000) (p : Pr) (hG : getL k t.ino = some p) (hp : ∃ x ∈ t.ino,x.key = k) : Calls Tryz.prog 158 #[.pointer (some ⟨b,0,none⟩),.string k] w (VnR (t.cut k) w) := by
 have HG := hQ_ (get_calls b A t k w h hr (some p) hG)
 have HN := hQ_ h.2
 have HT := hQ_ h.1
 have HS := hQ_ hn
 have HR := hQ_ hr
 have HP := hQ_ hp
 clear h hn hr hp hG
 go_enter Tryz.func158,Tryz.ntmps158
 go_wp2_with (first
  | (go_at_call 42; refine HG.out.mono ?_; rintro e w1 ⟨rfl,rfl⟩; dsimp only [GotV])
  | (go_at_call 74; refine (top_calls b A _ HT.out).mono ?_; rintro e w1 ⟨rfl,rfl⟩)
  | (go_at_call 171; refine (cut_calls t k A _ HS.out HR.out HP.out HN.out).mono ?_; rintro e w2 ⟨A2,rfl,hn2,hb2⟩; have HN2 := hQ_ hn2; have HB2 := hQ_ hb2; clear hn2 hb2))
 go_ret
 exact ⟨_,_,rfl,vn_new HN2.out,HB2.out.alloc HB2.out.size _⟩
theorem cutm_no (b : Nat) (A : Option Addr) (t : Tt) (k : ByteArray) (w : World) (h : Vn w b A t) (hr : Rise t.ino) (hG : getL k t.ino = none) : Calls Tryz.prog 158 #[.pointer (some ⟨b,0,none⟩),.string k] w (VnR t w) := by
 have HG := hQ_ (get_calls b A t k w h hr none hG)
 have HV := hQ_ h
 clear h hr hG
 go_enter Tryz.func158,Tryz.ntmps158
 go_wp2_with (go_at_call 42; refine HG.out.mono ?_; rintro e w1 ⟨rfl,rfl⟩; dsimp only [GotV])
 go_ret
 exact ⟨_,_,rfl,HV.out,Below.refl _ _⟩
theorem len_calls (b : Nat) (A : Option Addr) (t : Tt) (w : World) (h : Vn w b A t) (n : Nat) (hn : t.sz = n) : Calls Tryz.prog 72 #[.pointer (some ⟨b,0,none⟩)] w fun e w' => e = .returned (.int .i64 (n : Nat)) ∧ w = w' := by
 have HN := hQ_ h.2
 have HT := hQ_ h.1
 have HS := hQ_ hn
 clear h hn
 go_enter Tryz.func72,Tryz.ntmps72
 go_wp2_with (first
  | (go_at_call 74; refine (top_calls b A _ HT.out).mono ?_; rintro e w1 ⟨rfl,rfl⟩)
  | (go_at_call 96; refine (size_calls t A _ HN.out n HS.out).mono ?_; rintro e w1 ⟨rfl,rfl⟩))
 go_ret
 exact ⟨rfl,rfl⟩
theorem range_made (b : Nat) (A : Option Addr) (t : Tt) (x y : ByteArray) (w : World) (h : Vn w b A t) (hr : Rise t.ino) (hn : t.sz ≤ 60000) : Calls Tryz.prog 44 #[.pointer (some ⟨b,0,none⟩),.string x,.string y] w (Made (rangeL x y t.ino) w) := by
 have HN := hQ_ h.2
 have HT := hQ_ h.1
 have HS := hQ_ hn
 have HR := hQ_ hr
 clear h hn hr
 have G := hQ_ (gather_calls x y t A w w.heap.size (.slice none 0 0) [] HR.out HN.out (So.nil_ _ _ _ _) (Nat.le_refl _) (by have := HS.out; simp only [List.length_nil]; omega))
 go_enter Tryz.func44,Tryz.ntmps44
 go_wp2_with (first
  | (go_at_call 74; refine (top_calls b A _ HT.out).mono ?_; rintro e w1 ⟨rfl,rfl⟩)
  | (go_at_call 77; refine G.out.mono ?_; rintro e w2 ⟨v,rfl,ho,hb2,_,_⟩; have HO := hQ_ ho; have HB2 := hQ_ hb2; clear ho hb2))
 go_ret
 exact ⟨_,rfl,HO.out,HB2.out⟩
theorem has_get {L : List Pr} {k : ByteArray} {p : Pr} (h : getL k L = some p) : ∃ x ∈ L,x.key = k := ⟨p,List.mem_of_find?_eq_some h,by simpa using List.find?_some h⟩
theorem cut_none {L : List Pr} {k : ByteArray} (h : getL k L = none) : cutL k L = L := List.filter_eq_self.2 fun p hp => by
 have := List.find?_eq_none.1 h p hp
 simpa using this
end Go.Proofs.YtogdjbhjgbnicaaGreatDoor.TreeG
namespace Go.Proofs.YtogdjbhjgbnicaaGreatDoor.Chg
open Go.RowKit
open Byte Own Lst
structure Chg (S : Nat → Prop) (w w' : World) : Prop where
 os : w'.os = w.os
 tape : w'.tape = w.tape
 output : w'.output = w.output
 size : w.heap.size ≤ w'.heap.size
 block : ∀ k,k < w.heap.size → ¬ S k → w'.heap[k]? = w.heap[k]?
section
variable {S : Nat → Prop} {a b c w w' : World}
theorem Chg.refl (S : Nat → Prop) (w : World) : Chg S w w := ⟨rfl,rfl,rfl,Nat.le_refl _,fun _ _ _ => rfl⟩
theorem Chg.trans (h : Chg S a b) (k : Chg S b c) : Chg S a c :=
 ⟨k.os.trans h.os,k.tape.trans h.tape,k.output.trans h.output,Nat.le_trans h.size k.size,fun i hi hn => (k.block i (Nat.lt_of_lt_of_le hi h.size) hn).trans (h.block i hi hn)⟩
theorem Chg.mono {T : Nat → Prop} (h : Chg S a b) (hs : ∀ k,k < a.heap.size → S k → T k) : Chg T a b :=
 ⟨h.os,h.tape,h.output,h.size,fun i hi hn => h.block i hi (fun hk => hn (hs i hi hk))⟩
theorem Chg.drew (h : Chg S a b) : Chg S a b.drew := ⟨h.os,h.tape,h.output,h.size,h.block⟩
theorem Chg.alloc (h : Chg S a b) (o : Obj) : Chg S a (b.alloc o) :=
 h.trans ⟨rfl,rfl,rfl,by simp,fun k hk _ => Below.heap_alloc _ _ _ hk⟩
theorem Chg.setCell (h : Chg S a b) {p : Addr} (hp : S p.block ∨ a.heap.size ≤ p.block) (u : Value) : Chg S a (b.setCell p u) :=
 ⟨h.os,h.tape,h.output,by simpa [World.setCell] using h.size,fun k hk hn => (Below.heap_setCell _ _ _ _ (by
   rintro rfl
   rcases hp with hp | hp
   ·exact hn hp
   ·omega)).trans (h.block k hk hn)⟩
theorem Chg.own {d : Nat} (h : Chg (fun k => k = d) a b) (i : Nat) (u : Value) : Chg (fun k => k = d) a (b.setCell ⟨d,i,none⟩ u) := h.setCell (.inl rfl) u
theorem Chg.of_below (h : Below a.heap.size a b) : Chg S a b := ⟨h.os,h.tape,h.output,h.size,fun k hk _ => h.block k hk⟩
theorem Chg.of_grown {row : Option Nat} (h : a.grownBy b row) (hs : ∀ k,row = some k → S k ∨ a.heap.size ≤ k) : Chg S a b :=
 ⟨h.os,h.tape,h.output,h.size,fun k hk hn => h.block k hk (fun e => by
   rcases hs k e.symm with h1 | h1
   ·exact hn h1
   ·omega)⟩
theorem Chg.then_ {T : Nat → Prop} (h : Chg S a b) (k : Chg T b c) (ht : ∀ i,i < a.heap.size → T i → S i) : Chg S a c :=
 ⟨k.os.trans h.os,k.tape.trans h.tape,k.output.trans h.output,Nat.le_trans h.size k.size,fun i hi hn => (k.block i (Nat.lt_of_lt_of_le hi h.size) (fun hk => hn (ht i hi hk))).trans (h.block i hi hn)⟩
end
theorem Chg.cell {S : Nat → Prop} {w w' : World} (h : Chg S w w') {p : Addr} {v : Value} (hc : w.cell? p = some v) (hn : ¬ S p.block) : w'.cell? p = some v :=
 (World.cell?_of_block (w := w) (h.block p.block (World.block_lt_of_cell? w p hc) hn)).trans hc
theorem Sl.chg {α : Type} {e : Enc α} {S : Nat → Prop} {w w' : World} {A : Option Addr} {n : Nat} {L : List α} (h : Sl e w A n L) (k : Chg S w w') (hA : ∀ b o,A = some ⟨b,o,none⟩ → ¬ S b) : Sl e w' A n L := by
 refine ⟨h.1,fun j x hj => ?_⟩
 obtain ⟨b,o,e1,hlt,hc⟩ := h.2 j x hj
 exact ⟨b,o,e1,Nat.lt_of_lt_of_le hlt k.size,fun i v hv => k.cell (p := ⟨b,o + j * e.size + i,none⟩) (hc i v hv) (hA b o e1)⟩
def Grow (w : World) (S S' : Nat → Prop) : Prop := ∀ b,S' b → S b ∨ w.heap.size ≤ b
theorem Grow.refl (w : World) (S : Nat → Prop) : Grow w S S := fun b h => .inl h
theorem Grow.trans {w w' : World} {S S' T : Nat → Prop} (h : Grow w S S') (k : Grow w' S' T) (hs : w.heap.size ≤ w'.heap.size) : Grow w S T := fun b hb => by
 rcases k b hb with h1 | h1
 ·exact h b h1
 ·exact .inr (Nat.le_trans hs h1)
end Go.Proofs.YtogdjbhjgbnicaaGreatDoor.Chg
namespace Go.Proofs.YtogdjbhjgbnicaaGreatDoor.TreeH
open Go.RowKit
open Byte KeysM TreeM TreeB TreeD TreeE TreeF TreeG Own Lst TreeR TreeL Chg
variable {w w' : World} {v : Value} {L : List Pr} {h : Nat}
theorem tkeep (hr : TRep w v L h) (hk : Kept w w') : TRep w' v L h := by
 obtain ⟨b,A,t,rfl,hv,rest⟩ := hr
 exact ⟨b,A,t,rfl,⟨hk _ _ _ _ (.inl rfl) hv.1,hv.2.keep hk⟩,rest⟩
theorem trise (hr : TRep w v L h) : Rise L := by
 obtain ⟨b,A,t,rfl,hv,rfl,h2,_⟩ := hr
 exact h2
theorem tform (hr : TRep w v L h) : ∃ b,v = .pointer (some ⟨b,0,none⟩) ∧ b < w.heap.size := by
 obtain ⟨b,A,t,rfl,hv,_⟩ := hr
 exact ⟨b,rfl,hv.1.lt⟩
theorem tset (k x : ByteArray) (hr : TRep w v L h) (hl : L.length ≤ 50000) : Calls Tryz.prog 148 #[v,.string k,.string x] w fun e w' => ∃ v' h',e = .returned v' ∧ TRep w' v' (putL k x L) h' ∧ Below w.heap.size w w' := by
 obtain ⟨b,A,t,rfl,hv,rfl,h2,h3,rfl⟩ := hr
 rw [Tt.sz_ino] at hl
 refine (setm_calls b A t k x w hv (by omega)).mono ?_
 rintro e w' ⟨b',A',rfl,hv',hb'⟩
 exact ⟨_,_,rfl,⟨b',A',_,rfl,hv',Tt.ino_set t k x h2,rise_put h2 k x,(Tt.set_avl t _ h3).1,rfl⟩,hb'⟩
theorem tcut (k : ByteArray) (hr : TRep w v L h) (hl : L.length ≤ 50000) : Calls Tryz.prog 158 #[v,.string k] w fun e w' => ∃ v' h',e = .returned v' ∧ TRep w' v' (cutL k L) h' ∧ Below w.heap.size w w' := by
 obtain ⟨b,A,t,rfl,hv,rfl,h2,h3,rfl⟩ := hr
 rw [Tt.sz_ino] at hl
 cases hG : getL k t.ino with
 | none =>
   refine (cutm_no b A t k w hv h2 hG).mono ?_
   rintro e w' ⟨b',A',rfl,hv',hb'⟩
   exact ⟨_,_,rfl,⟨b',A',_,rfl,hv',(cut_none hG).symm,rise_cut h2 k,h3,rfl⟩,hb'⟩
 | some p =>
   refine (cutm_yes b A t k w hv h2 (by omega) p hG (has_get hG)).mono ?_
   rintro e w' ⟨b',A',rfl,hv',hb'⟩
   exact ⟨_,_,rfl,⟨b',A',_,rfl,hv',Tt.ino_cut t k h2,rise_cut h2 k,(Tt.cut_avl t k h3).1,rfl⟩,hb'⟩
theorem tget (k : ByteArray) (hr : TRep w v L h) (hl : L.length ≤ 50000) : Calls Tryz.prog 42 #[v,.string k] w fun e w' => e = .returned (GotV (getL k L)) ∧ w = w' := by
 obtain ⟨b,A,t,rfl,hv,rfl,h2,h3,rfl⟩ := hr
 exact TreeQ.get_calls b A t k w hv h2 _ rfl
theorem tlen (hr : TRep w v L h) (hl : L.length ≤ 50000) : Calls Tryz.prog 72 #[v] w fun e w' => e = .returned (.int .i64 (L.length : Nat)) ∧ w = w' := by
 obtain ⟨b,A,t,rfl,hv,rfl,h2,h3,rfl⟩ := hr
 exact len_calls b A t w hv _ (Tt.sz_ino t).symm
theorem trange (x y : ByteArray) (hr : TRep w v L h) (hl : L.length ≤ 50000) : Calls Tryz.prog 44 #[v,.string x,.string y] w (Made (rangeL x y L) w) := by
 obtain ⟨b,A,t,rfl,hv,rfl,h2,h3,rfl⟩ := hr
 rw [Tt.sz_ino] at hl
 exact range_made b A t x y w hv h2 (by omega)
end Go.Proofs.YtogdjbhjgbnicaaGreatDoor.TreeH
namespace Go.Proofs.YtogdjbhjgbnicaaGreatDoor.ViewL
open Go.RowKit
open Byte KeysM TreeM ViewM Own Lst Chg TreeR TreeL TreeG TreeH Ho ViewR ViewS
structure Lim (s : Vs) : Prop where
 base : s.base.length ≤ 1000
 rd : s.rd.length ≤ 20000
 rg : s.rg.length ≤ 1000
structure Stp (S D S' D' : Nat → Prop) (w w' : World) : Prop where
 chg : Chg S w w'
 kept : Kept w w'
 own : Grow w S S'
 dep : Grow w D D'
structure Stays (Rep : World → Value → Vs → (Nat → Prop) → (Nat → Prop) → Prop) : Prop where
 stay : ∀ {w w' v s S D} {T : Nat → Prop},Rep w v s S D → Chg T w w' → (∀ b,T b → ¬ D b) → Kept w w' → Rep w' v s S D
 ok : ∀ {w v s S D},Rep w v s S D → s.Ok
 lt : ∀ {w v s S D},Rep w v s S D → ∀ b,D b → b < w.heap.size
 sub : ∀ {w v s S D},Rep w v s S D → ∀ b,S b → D b
variable {Rep : World → Value → Vs → (Nat → Prop) → (Nat → Prop) → Prop}
theorem Stays.below (h : Stays Rep) {w w' : World} {v : Value} {s : Vs} {S D : Nat → Prop} (r : Rep w v s S D) (hb : Below w.heap.size w w') : Rep w' v s S D :=
 h.stay (T := fun _ => False) r (Chg.of_below hb) (fun _ h => h.elim) (Kept.of_below hb)
def NewOk (Rep : World → Value → Vs → (Nat → Prop) → (Nat → Prop) → Prop) : Prop := ∀ ⦃w t L h⦄,TRep w t L h → L.length ≤ 1000 → Calls Tryz.prog 9 #[t] w fun e w' => ∃ v S D,e = .returned v ∧ Rep w' v ⟨L,[],[],[]⟩ S D ∧ (∀ b,S b → w.heap.size ≤ b) ∧ (∀ b,D b → w.heap.size ≤ b) ∧ Below w.heap.size w w'
def GetOk (Rep : World → Value → Vs → (Nat → Prop) → (Nat → Prop) → Prop) : Prop := ∀ ⦃w v s S D⦄ (k : ByteArray),Rep w v s S D → Lim s → k.size ≤ 200000000000000 → Calls Tryz.prog 152 #[v,.string k] w fun e w' => ∃ S' D',e = .returned (GotV (getL k s.shown)) ∧ Rep w' v (s.read k) S' D' ∧ Stp S D S' D' w w'
def LookOk (Rep : World → Value → Vs → (Nat → Prop) → (Nat → Prop) → Prop) : Prop := ∀ ⦃w v s S D⦄ (k : ByteArray),Rep w v s S D → Lim s → k.size ≤ 200000000000000 → Calls Tryz.prog 134 #[v,.string k] w fun e w' => ∃ S' D',e = .returned (GotV (getL k s.shown)) ∧ Rep w' v s S' D' ∧ Stp S D S' D' w w'
def RangeOk (Rep : World → Value → Vs → (Nat → Prop) → (Nat → Prop) → Prop) : Prop := ∀ ⦃w v s S D⦄ (x y : ByteArray),Rep w v s S D → Lim s → x.size ≤ 200000000000000 → y.size ≤ 200000000000000 → Calls Tryz.prog 25 #[v,.string x,.string y] w fun e w' => ∃ (r : Sh) (S' D' : Nat → Prop),e = .returned (.slice r.a r.n r.c) ∧ Sl prE w' r.a r.n (s.rangeOf x y) ∧ (0 < r.n → NewA w r) ∧ Rep w' v (s.ranged x y) S' D' ∧ Stp S D S' D' w w'
def SetOk (Rep : World → Value → Vs → (Nat → Prop) → (Nat → Prop) → Prop) : Prop := ∀ ⦃w v s S D⦄ (k x : ByteArray),Rep w v s S D → Lim s → k.size ≤ 200000000000000 → x.size ≤ 200000000000000 → Calls Tryz.prog 122 #[v,.string k,.string x] w fun e w' => ∃ S' D',e = .returned (.bool (!fullW s.wr ⟨k,x,false⟩)) ∧ Rep w' v (s.write ⟨k,x,false⟩) S' D' ∧ Stp S D S' D' w w'
def CutOk (Rep : World → Value → Vs → (Nat → Prop) → (Nat → Prop) → Prop) : Prop := ∀ ⦃w v s S D⦄ (k : ByteArray),Rep w v s S D → Lim s → k.size ≤ 200000000000000 → Calls Tryz.prog 133 #[v,.string k] w fun e w' => ∃ S' D',e = .returned (.bool (!fullW s.wr ⟨k,⟨#[]⟩,true⟩)) ∧ Rep w' v (s.write ⟨k,⟨#[]⟩,true⟩) S' D' ∧ Stp S D S' D' w w'
theorem below_chg {B : Nat} {w w1 w2 : World} {S : Nat → Prop} (h : Below B w w1) (k : Chg S w1 w2) (hS : ∀ b,S b → B ≤ b) (hB : B ≤ w.heap.size) : Below B w w2 :=
 ⟨k.os.trans h.os,k.tape.trans h.tape,k.output.trans h.output,Nat.le_trans h.size k.size,fun i hi => (k.block i (by have := h.size; omega) (fun hk => by have := hS i hk; omega)).trans (h.block i hi)⟩
theorem new_own {w1 : World} {S S' : Nat → Prop} {B : Nat} (hS : ∀ b,S b → B ≤ b) (hB : B ≤ w1.heap.size) (g : Grow w1 S S') : ∀ b,S' b → B ≤ b := fun b hb => by
 rcases g b hb with h | h
 ·exact hS b h
 ·omega
end Go.Proofs.YtogdjbhjgbnicaaGreatDoor.ViewL
namespace Go.Proofs.YtogdjbhjgbnicaaGreatDoor.ViewD
open Go.RowKit
open Byte KeysM TreeM ViewM Own Lst Chg TreeR TreeL TreeG TreeH Ho ViewR ViewS ViewL
variable {Rep : World → Value → Vs → (Nat → Prop) → (Nat → Prop) → Prop}
theorem Kept.trans {a b c : World} (h : Kept a b) (k : Kept b c) : Kept a c := fun q cs U fr hU hb => k q cs U fr hU (h q cs U fr hU hb)
theorem kept_set {W : World} {r : Nat} {cs : Array Value} {T : TypeId} (h : Blk W r cs T) (hne : 76 ≠ T ∧ 125 ≠ T) (i : Nat) (u : Value) : Kept W (W.setCell ⟨r,i,none⟩ u) := fun q cs' U fr hU hb => by
 by_cases e : q = r
 ·subst e
  unfold Blk at h
  rw [h] at hb
  injection hb with hb
  injection hb with _ hT _
  subst hT
  rcases hU with h1 | h1
  ·exact absurd h1.symm hne.1
  ·exact absurd h1.symm hne.2
 ·exact (Below.heap_setCell W ⟨r,i,none⟩ u q e).trans hb
theorem blk_chg {S : Nat → Prop} {w w' : World} {g : Nat} {cs : Array Value} {t : TypeId} (h : Blk w g cs t) (k : Chg S w w') (hg : ¬ S g) : Blk w' g cs t := (k.block g h.lt hg).trans h
end Go.Proofs.YtogdjbhjgbnicaaGreatDoor.ViewD
namespace Go.Proofs.YtogdjbhjgbnicaaGreatDoor.ViewP
open Go.RowKit
open Byte KeysM TreeM ViewM Own Lst Chg TreeR TreeL TreeG TreeH Ho ViewR ViewS ViewL ViewD
variable {Rep : World → Value → Vs → (Nat → Prop) → (Nat → Prop) → Prop}
theorem add_len (a b : ByteArray) (G : List (ByteArray × ByteArray)) : (addR a b G).length ≤ G.length + 1 := by
 unfold addR
 split
 ·omega
 ·simp
theorem kept_grown {W W' : World} {r : Nat} {cs : Array Value} {T : TypeId} (h : Blk W r cs T) (hne : 76 ≠ T ∧ 125 ≠ T) (hg : W.grownBy W' (some r)) : Kept W W' := fun q cs' U fr hU hb => by
 by_cases e : q = r
 ·subst e
  unfold Blk at h
  rw [h] at hb
  injection hb with hb
  injection hb with _ hT _
  subst hT
  rcases hU with h1 | h1
  ·exact absurd h1.symm hne.1
  ·exact absurd h1.symm hne.2
 ·have hlt : q < W.heap.size := (Array.getElem?_eq_some_iff.1 hb).1
  exact (hg.block q hlt (fun h => e (by first | exact (Option.some.inj h).symm | exact Option.some.inj h))).trans hb
end Go.Proofs.YtogdjbhjgbnicaaGreatDoor.ViewP