import Derived.Test.YtogdjbhjgbnicaaGreatDoorSq
import Derived.Test.YtogdjbhjgbnicaaGreatDoorTreeQ
import Derived.Test.YtogdjbhjgbnicaaGreatDoorTreeJ
import Derived.Test.YtogdjbhjgbnicaaGreatDoorTreeK
set_option maxHeartbeats 16000000
set_option linter.unusedVariables false
set_option linter.unusedSimpArgs false
set_option maxRecDepth 100000
namespace Go.Proofs.YtogdjbhjgbnicaaGreatDoor.TreeG
open Go.RowKit
open Byte KeysM TreeM Own Lst TreeR TreeL TreeB TreeD TreeF TreeK TreeJ TreeQ
def TRep (w : World) (v : Value) (L : List Pr) (h : Nat) : Prop := ∃ b A t,v = .pointer (some ⟨b,0,none⟩) ∧ Vn w b A t ∧ t.ino = L ∧ Rise L ∧ t.Avl ∧ t.ht = h
theorem vn_new {W : World} {A : Option Addr} {t : Tt} (h : Nd W t A) : Vn (W.alloc (.cells #[.pointer A] 76)) W.heap.size A t := ⟨Blk.new_ _ _ _,h.below (bW_)⟩
theorem new_calls (w : World) : Calls Tryz.prog 10 #[] w fun e w' => ∃ v h,e = .returned v ∧ TRep w' v [] h ∧ Below w.heap.size w w' := by
 have H : Calls Tryz.prog 10 #[] w fun e w' => e = .returned (.pointer (some ⟨w.heap.size,0,none⟩)) ∧ w' = w.alloc (.cells #[.pointer none] 76) := by
  go_enter Tryz.func10,Tryz.ntmps10
  go_wp2_with fail
  go_ret
  exact ⟨rfl,rfl⟩
 refine H.mono ?_
 rintro e w' ⟨rfl,rfl⟩
 exact ⟨_,0,rfl,⟨_,none,.no,rfl,vn_new rfl,rfl,List.Pairwise.nil,trivial,rfl⟩,bW_⟩
def VnR (t : Tt) (w : World) (e : Ending) (w' : World) : Prop := ∃ b A,e = .returned (.pointer (some ⟨b,0,none⟩)) ∧ Vn w' b A t ∧ Below w.heap.size w w'
theorem setm_calls (b : Nat) (A : Option Addr) (t : Tt) (k x : ByteArray) (w : World) (h : Vn w b A t) (hn : t.sz ≤ 60000) : Calls Tryz.prog 148 #[.pointer (some ⟨b,0,none⟩),.string k,.string x] w (VnR (t.set ⟨k,x,false⟩) w) := by
 have HN := hQ_ h.2
 have HT := hQ_ h.1
 have HS := hQ_ hn
 clear h hn
 go_enter Tryz.func148,Tryz.ntmps148
 go_wp2_with (first
  | (go_at_call 74; refine (top_calls b A _ HT.out).mono ?_; rintro e w1 ⟨rfl,rfl⟩)
  | (go_at_call 164; refine (set_calls ⟨k,x,false⟩ t A _ HS.out HN.out).mono ?_; rintro e w2 ⟨A2,rfl,hn2,hb2⟩; have HN2 := hQ_ hn2; have HB2 := hQ_ hb2; clear hn2 hb2))
 go_ret
 exact ⟨_,_,rfl,vn_new HN2.out,HB2.out.alloc HB2.out.size _⟩
theorem cutm_yes (b : Nat) (A : Option Addr) (t : Tt) (k : ByteArray) (w : World) (h : Vn w b A t) (hr : Rise t.ino) (hn : t.sz ≤ 60000) (p : Pr) (hG : getL k t.ino = some p) (hp : ∃ x ∈ t.ino,x.key = k) : Calls Tryz.prog 158 #[.pointer (some ⟨b,0,none⟩),.string k] w (VnR (t.cut k) w) := by
 have HG := hQ_ (get_calls b A t k w h hr (some p) hG)
 have HN := hQ_ h.2
 have HT := hQ_ h.1
 have HS := hQ_ hn
 have HR := hQ_ hr
 have HP := hQ_ hp
 clear h hn hr hp hG
 go_enter Tryz.func158,Tryz.ntmps158
 go_wp2_with (first
  | (go_at_call 42; refine HG.out.mono ?_; rintro e w1 ⟨rfl,rfl⟩; dsimp only [GotV])
  | (go_at_call 74; refine (top_calls b A _ HT.out).mono ?_; rintro e w1 ⟨rfl,rfl⟩)
  | (go_at_call 171; refine (cut_calls t k A _ HS.out HR.out HP.out HN.out).mono ?_; rintro e w2 ⟨A2,rfl,hn2,hb2⟩; have HN2 := hQ_ hn2; have HB2 := hQ_ hb2; clear hn2 hb2))
 go_ret
 exact ⟨_,_,rfl,vn_new HN2.out,HB2.out.alloc HB2.out.size _⟩
theorem cutm_no (b : Nat) (A : Option Addr) (t : Tt) (k : ByteArray) (w : World) (h : Vn w b A t) (hr : Rise t.ino) (hG : getL k t.ino = none) : Calls Tryz.prog 158 #[.pointer (some ⟨b,0,none⟩),.string k] w (VnR t w) := by
 have HG := hQ_ (get_calls b A t k w h hr none hG)
 have HV := hQ_ h
 clear h hr hG
 go_enter Tryz.func158,Tryz.ntmps158
 go_wp2_with (go_at_call 42; refine HG.out.mono ?_; rintro e w1 ⟨rfl,rfl⟩; dsimp only [GotV])
 go_ret
 exact ⟨_,_,rfl,HV.out,Below.refl _ _⟩
theorem len_calls (b : Nat) (A : Option Addr) (t : Tt) (w : World) (h : Vn w b A t) (n : Nat) (hn : t.sz = n) : Calls Tryz.prog 72 #[.pointer (some ⟨b,0,none⟩)] w fun e w' => e = .returned (.int .i64 (n : Nat)) ∧ w = w' := by
 have HN := hQ_ h.2
 have HT := hQ_ h.1
 have HS := hQ_ hn
 clear h hn
 go_enter Tryz.func72,Tryz.ntmps72
 go_wp2_with (first
  | (go_at_call 74; refine (top_calls b A _ HT.out).mono ?_; rintro e w1 ⟨rfl,rfl⟩)
  | (go_at_call 96; refine (size_calls t A _ HN.out n HS.out).mono ?_; rintro e w1 ⟨rfl,rfl⟩))
 go_ret
 exact ⟨rfl,rfl⟩
theorem range_made (b : Nat) (A : Option Addr) (t : Tt) (x y : ByteArray) (w : World) (h : Vn w b A t) (hr : Rise t.ino) (hn : t.sz ≤ 60000) : Calls Tryz.prog 44 #[.pointer (some ⟨b,0,none⟩),.string x,.string y] w (Made (rangeL x y t.ino) w) := by
 have HN := hQ_ h.2
 have HT := hQ_ h.1
 have HS := hQ_ hn
 have HR := hQ_ hr
 clear h hn hr
 have G := hQ_ (gather_calls x y t A w w.heap.size (.slice none 0 0) [] HR.out HN.out (So.nil_ _ _ _ _) (Nat.le_refl _) (by have := HS.out; simp only [List.length_nil]; omega))
 go_enter Tryz.func44,Tryz.ntmps44
 go_wp2_with (first
  | (go_at_call 74; refine (top_calls b A _ HT.out).mono ?_; rintro e w1 ⟨rfl,rfl⟩)
  | (go_at_call 77; refine G.out.mono ?_; rintro e w2 ⟨v,rfl,ho,hb2,_,_⟩; have HO := hQ_ ho; have HB2 := hQ_ hb2; clear ho hb2))
 go_ret
 exact ⟨_,rfl,HO.out,HB2.out⟩
theorem has_get {L : List Pr} {k : ByteArray} {p : Pr} (h : getL k L = some p) : ∃ x ∈ L,x.key = k := ⟨p,List.mem_of_find?_eq_some h,by simpa using List.find?_some h⟩
theorem cut_none {L : List Pr} {k : ByteArray} (h : getL k L = none) : cutL k L = L := List.filter_eq_self.2 fun p hp => by
 have := List.find?_eq_none.1 h p hp
 simpa using this
end Go.Proofs.YtogdjbhjgbnicaaGreatDoor.TreeG