import Derived.Test.YtlblfpacnegmlaaSq
import Derived.Test.YtlblfpacnegmlaaTreeQ
import Derived.Test.YtlblfpacnegmlaaTreeJ
import Derived.Test.YtlblfpacnegmlaaTreeF
import Derived.Deep.LoopGhost
set_option maxHeartbeats 16000000
set_option linter.unusedVariables false
set_option linter.unusedSimpArgs false
set_option maxRecDepth 100000
namespace Go.Proofs.Ytlblfpacnegmlaa.TreeG
open Go.RowKit
open Byte KeysM TreeM Own Lst TreeR TreeL TreeB TreeD TreeF TreeJ TreeQ
theorem results_row_tmp {P : Program} {fn : Func} {p u : Tmp} {ty : TypeId} (h : fn.results = #[.cell p ty,.tmp u]) (tmps : Array Value) (w : World) (g : Nat) (t : TypeId) (cs : Array Value) (fr : Nat × Nat) (d : TypeDesc)
 (hp : tmps.getD p undef = .pointer (some ⟨g,0,none⟩)) (x : Value) (hx : tmps.getD u undef = x) (hg : w.heap[g]? = some (.cells cs t fr))
 (hu : P.underlying ty = some d) (hd : (match d with | .struct _ | .array _ _ => true | _ => false) = true) (hi : (P.info? ty).map (·.size) = some cs.size) :
 (results fn tmps).run P w = .ok (.tuple #[.agg cs,x]) w := by
 subst hx
 rw [results_cell_tmp h]
 have hp' : tmps[p]?.getD undef = .pointer (some ⟨g,0,none⟩) := by simpa using hp
 simp [hp',asAddr,run_loadVar_row w g t ty cs fr d hg hu hd hi,Result.andThen]
theorem at_l {l r : Tt} {q : Pr} {j : Nat} (h : j < l.sz) : (Tt.nd l q r).ino[j]? = l.ino[j]? := List.getElem?_append_left (by rw [Tt.sz_ino]; exact h)
theorem at_m {l r : Tt} {q : Pr} : (Tt.nd l q r).ino[l.sz]? = some q := by
 show (l.ino ++ q :: r.ino)[l.sz]? = _
 rw [List.getElem?_append_right (by rw [Tt.sz_ino]; exact Nat.le_refl _),Tt.sz_ino,Nat.sub_self]
 rfl
theorem at_r {l r : Tt} {q : Pr} {j : Nat} (h : l.sz < j) : (Tt.nd l q r).ino[j]? = r.ino[j - l.sz - 1]? := by
 show (l.ino ++ q :: r.ino)[j]? = _
 rw [List.getElem?_append_right (by rw [Tt.sz_ino]; omega),Tt.sz_ino,show j - l.sz = (j - l.sz - 1) + 1 by omega,List.getElem?_cons_succ,Nat.add_sub_cancel]
theorem at_yes (b : Nat) (A : Option Addr) (t : Tt) (j : Nat) (w : World) (h : Vn w b A t) (hn : t.sz ≤ 60000) (hj : j < t.sz) (X : Pr) (hX : t.ino[j]? = some X) :
 Calls Try.prog 45 #[.pointer (some ⟨b,0,none⟩),.int .i64 (j : Nat)] w fun e w' => e = .returned (.tuple #[.agg #[.string X.key,.string X.value,.bool X.gone],.bool true]) ∧ Below w.heap.size w w' := by
 have HR := hQ_ (Blk.new_ w #[.string ⟨#[]⟩,.string ⟨#[]⟩,.bool false] 49)
 have hb1 := bX_ HR.out
 have HN := hQ_ (h.2.below hb1)
 have HT := hQ_ (h.1.below hb1)
 have HB1 := hQ_ hb1
 have HX := hQ_ hX
 obtain ⟨n,e1⟩ : ∃ n,t.sz = n := ⟨_,rfl⟩
 rw [e1] at hn hj
 have E1 := hQ_ e1
 have hjj : j < n := hj
 have HJ := hQ_ hjj
 have d1 : decide ((j : Int) < 0) = false := decide_eq_false (by omega)
 have d2 : decide ((n : Int) ≤ (j : Int)) = false := decide_eq_false (by omega)
 have d3 : decide (n ≤ j) = false := decide_eq_false (by omega)
 clear h hb1 e1 hX
 go_enter Try.func45,Try.ntmps45
 go_wp2_with (first
  | (go_at_call 52; refine (top_calls b A _ HT.out).mono ?_; rintro e w1 ⟨rfl,rfl⟩)
  | (go_at_call 57; refine (size_calls t A _ HN.out n E1.out).mono ?_; rintro e w1 ⟨rfl,rfl⟩))
 obtain ⟨W,hW⟩ : ∃ W,w.alloc (.cells #[.string ⟨#[]⟩,.string ⟨#[]⟩,.bool false] 49) = W := ⟨_,rfl⟩
 rw [hW] at HN HT HB1 HR ⊢
 clear hW d1 d2 d3
 go_loopg [1,6] t.sz (fun m i n wr => ∃ (t' : Tt) (A' : Option Addr) (k : Nat),i = .int .i64 k ∧ n = .pointer A' ∧ Hid (Nd W t' A') ∧ k < 60000 ∧ Hid (k < t'.sz) ∧ Hid (t'.ino[k]? = some X) ∧ Hid (t'.sz ≤ m) ∧ wr = W)
 case atStart => exact ⟨t,A,j,rfl,rfl,HN,by omega,hQ_ (by rw [E1.out]; exact HJ.out),HX,hQ_ (Nat.le_refl _),rfl⟩
 case round =>
  obtain ⟨t',A',k,rfl,rfl,HN',hk6,HK',HX',HM,rfl⟩ := hrel
  cases t' with
  | no => exact absurd HK'.out (by simp [Tt.sz])
  | nd l q r =>
    obtain ⟨d,C,D,rfl,hk,hl,hr⟩ := HN'.out
    have c3 := cZ3 hk
    have c4 := cZ4 hk
    have c0 := cC3 hk
    have HL := hQ_ hl
    have HRR := hQ_ hr
    obtain ⟨n1,hn1⟩ : ∃ n,l.sz = n := ⟨_,rfl⟩
    have HN1 := hQ_ hn1
    have hk7 := HK'.out
    simp only [Tt.sz] at hk7
    clear hk hl hr hj hjj
    rcases (show k < n1 ∨ k = n1 ∨ n1 < k by omega) with q1 | q1 | q1
    ·have d1 : decide ((k : Int) < (n1 : Int)) = true := decide_eq_true (by omega)
     have HX2 := hQ_ ((at_l (q := q) (r := r) (by rw [hn1]; exact q1)).symm.trans HX'.out)
     have HK2 : Hid (k < l.sz) := hQ_ (by rw [hn1]; exact q1)
     clear hn1 hk7
     go_wp2_with (go_at_call 57; refine (size_calls l C _ HL.out n1 HN1.out).mono ?_; rintro e w1 ⟨rfl,rfl⟩)
     go_roundg l.sz
     case rel => exact ⟨l,_,k,rfl,rfl,HL,hk6,HK2,HX2,hQ_ (Nat.le_refl _),rfl⟩
     case measure => have := HM.out; simp only [Tt.sz] at this; omega
    ·subst q1
     have hX : q = X := by
      have := HX'.out
      rw [← hn1,at_m] at this
      injection this
     subst hX
     have d1 : decide ((k : Int) < (k : Int)) = false := decide_eq_false (by omega)
     clear hn1 hk7
     go_wp2_with (first
      | (go_at_call 57; refine (size_calls l C _ HL.out k HN1.out).mono ?_; rintro e w1 ⟨rfl,rfl⟩)
      | ((with_reducible refine pick none ?_); refine store_blk rfl 49 _ _ rfl w.heap.size #[.string q.key,.string q.value,.bool q.gone] rfl rfl 49 #[.string ⟨#[]⟩,.string ⟨#[]⟩,.bool false] HR.out info_pair3 rfl (by simp [Value.oneCell']) ?_; intro w5 hk5 hg5))
     exact bodyPost_ret (v := .tuple #[.agg #[.string q.key,.string q.value,.bool q.gone],.bool true]) (results_row_tmp rfl _ _ w.heap.size 49 _ (0,0) _ rfl _ rfl hk5 Try.underlying49 rfl info_pair3) rfl ⟨rfl,HB1.out.grown hg5 (by have := HR.out.lt; omega) (fun g hv => by injection hv with hv; omega)⟩
    ·have d1 : decide ((k : Int) < (n1 : Int)) = false := decide_eq_false (by omega)
     have d2 : decide ((n1 : Int) < (k : Int)) = true := decide_eq_true (by omega)
     obtain ⟨k2,hk2⟩ : ∃ k2 : Nat,k = k2 + n1 + 1 := ⟨k - n1 - 1,by omega⟩
     have HX2 : Hid (r.ino[k2]? = some X) := hQ_ (by
      have := HX'.out
      rw [at_r (by rw [hn1]; exact q1),hn1,show k - n1 - 1 = k2 by omega] at this
      exact this)
     have HK2 : Hid (k2 < r.sz) := hQ_ (by omega)
     have HKK := hQ_ hk2
     have hle : k2 ≤ k := by omega
     clear hn1 hk7 hk2
     go_wp2_with (go_at_call 57; refine (size_calls l C _ HL.out n1 HN1.out).mono ?_; rintro e w1 ⟨rfl,rfl⟩)
     go_roundg r.sz
     case rel => exact ⟨r,_,k2,by have := HKK.out; congr 1; omega,rfl,HRR,by omega,HK2,HX2,hQ_ (Nat.le_refl _),rfl⟩
     case measure => have := HM.out; simp only [Tt.sz] at this; omega
def TRep (w : World) (v : Value) (L : List Pr) (h : Nat) : Prop := ∃ b A t,v = .pointer (some ⟨b,0,none⟩) ∧ Vn w b A t ∧ t.ino = L ∧ Rise L ∧ t.Avl ∧ t.ht = h
theorem vn_new {W : World} {A : Option Addr} {t : Tt} (h : Nd W t A) : Vn (W.alloc (.cells #[.pointer A] 80)) W.heap.size A t := ⟨Blk.new_ _ _ _,h.below (bW_)⟩
theorem new_calls (w : World) : Calls Try.prog 23 #[] w fun e w' => ∃ v h,e = .returned v ∧ TRep w' v [] h ∧ Below w.heap.size w w' := by
 have H : Calls Try.prog 23 #[] w fun e w' => e = .returned (.pointer (some ⟨w.heap.size,0,none⟩)) ∧ w' = w.alloc (.cells #[.pointer none] 80) := by
  go_enter Try.func23,Try.ntmps23
  go_wp2_with fail
  go_ret
  exact ⟨rfl,rfl⟩
 refine H.mono ?_
 rintro e w' ⟨rfl,rfl⟩
 exact ⟨_,0,rfl,⟨_,none,.no,rfl,vn_new rfl,rfl,List.Pairwise.nil,trivial,rfl⟩,bW_⟩
def VnR (t : Tt) (w : World) (e : Ending) (w' : World) : Prop := ∃ b A,e = .returned (.pointer (some ⟨b,0,none⟩)) ∧ Vn w' b A t ∧ Below w.heap.size w w'
theorem setm_calls (b : Nat) (A : Option Addr) (t : Tt) (k x : ByteArray) (w : World) (h : Vn w b A t) (hn : t.sz ≤ 60000) : Calls Try.prog 39 #[.pointer (some ⟨b,0,none⟩),.string k,.string x] w (VnR (t.set ⟨k,x,false⟩) w) := by
 have HN := hQ_ h.2
 have HT := hQ_ h.1
 have HS := hQ_ hn
 clear h hn
 go_enter Try.func39,Try.ntmps39
 go_wp2_with (first
  | (go_at_call 52; refine (top_calls b A _ HT.out).mono ?_; rintro e w1 ⟨rfl,rfl⟩)
  | (go_at_call 53; refine (set_calls ⟨k,x,false⟩ t A _ HS.out HN.out).mono ?_; rintro e w2 ⟨A2,rfl,hn2,hb2⟩; have HN2 := hQ_ hn2; have HB2 := hQ_ hb2; clear hn2 hb2))
 go_ret
 exact ⟨_,_,rfl,vn_new HN2.out,HB2.out.alloc HB2.out.size _⟩
theorem len_calls (b : Nat) (A : Option Addr) (t : Tt) (w : World) (h : Vn w b A t) (n : Nat) (hn : t.sz = n) : Calls Try.prog 44 #[.pointer (some ⟨b,0,none⟩)] w fun e w' => e = .returned (.int .i64 (n : Nat)) ∧ w = w' := by
 have HN := hQ_ h.2
 have HT := hQ_ h.1
 have HS := hQ_ hn
 clear h hn
 go_enter Try.func44,Try.ntmps44
 go_wp2_with (first
  | (go_at_call 52; refine (top_calls b A _ HT.out).mono ?_; rintro e w1 ⟨rfl,rfl⟩)
  | (go_at_call 57; refine (size_calls t A _ HN.out n HS.out).mono ?_; rintro e w1 ⟨rfl,rfl⟩))
 go_ret
 exact ⟨rfl,rfl⟩
theorem range_made (b : Nat) (A : Option Addr) (t : Tt) (x y : ByteArray) (w : World) (h : Vn w b A t) (hr : Rise t.ino) (hn : t.sz ≤ 60000) : Calls Try.prog 42 #[.pointer (some ⟨b,0,none⟩),.string x,.string y] w (Made (rangeL x y t.ino) w) := by
 have HN := hQ_ h.2
 have HT := hQ_ h.1
 have HS := hQ_ hn
 have HR := hQ_ hr
 clear h hn hr
 have G := hQ_ (gather_calls x y t A w w.heap.size (.slice none 0 0) [] HR.out HN.out (So.nil_ _ _ _ _) (Nat.le_refl _) (by have := HS.out; simp only [List.length_nil]; omega))
 go_enter Try.func42,Try.ntmps42
 go_wp2_with (first
  | (go_at_call 52; refine (top_calls b A _ HT.out).mono ?_; rintro e w1 ⟨rfl,rfl⟩)
  | (go_at_call 56; refine G.out.mono ?_; rintro e w2 ⟨v,rfl,ho,hb2,_,_⟩; have HO := hQ_ ho; have HB2 := hQ_ hb2; clear ho hb2))
 go_ret
 exact ⟨_,rfl,HO.out,HB2.out⟩
end Go.Proofs.Ytlblfpacnegmlaa.TreeG