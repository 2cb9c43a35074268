import Derived.Test.YtogdjbhjgbnicaaGreatDoorSq
import Derived.Test.YtogdjbhjgbnicaaGreatDoorTreeH
set_option maxHeartbeats 16000000
set_option linter.unusedVariables false
set_option linter.unusedSimpArgs false
set_option maxRecDepth 100000
namespace Go.Proofs.YtogdjbhjgbnicaaGreatDoor.ViewKn
open Go.RowKit
open Byte KeysM TreeM TreeB TreeD TreeE TreeF TreeJ TreeQ TreeG TreeH Own Lst TreeR TreeL Chg
variable {w w' : World} {v : Value} {L : List Pr}
theorem top_nil (w : World) : Calls Tryz.prog 74 #[.pointer none] w fun e w' => e = .returned (.pointer none) ∧ w = w' := by
 go_enter Tryz.func74,Tryz.ntmps74
 go_wp2_with fail
 go_ret
 exact ⟨rfl,rfl⟩
theorem get_nil (k : ByteArray) (w : World) : Calls Tryz.prog 42 #[.pointer none,.string k] w fun e w' => e = .returned (GotV none) ∧ w = w' := by
 go_enter Tryz.func42,Tryz.ntmps42
 go_wp2_with (go_at_call 74; refine (top_nil _).mono ?_; rintro e w1 ⟨rfl,rfl⟩)
 go_loopg [6] 0 (fun m n wr => n = .pointer none ∧ wr = w)
 case atStart => exact ⟨rfl,rfl⟩
 case round =>
  obtain ⟨rfl,rfl⟩ := hrel
  go_wp2_with fail
  go_ret2
  exact ⟨rfl,rfl⟩
theorem set_nil (k x : ByteArray) (w : World) : Calls Tryz.prog 148 #[.pointer none,.string k,.string x] w (VnR (Tt.no.set ⟨k,x,false⟩) w) := by
 have HN : Hid (Nd w Tt.no none) := hQ_ rfl
 have HS : Hid (Tt.no.sz ≤ 60000) := hQ_ (Nat.zero_le _)
 go_enter Tryz.func148,Tryz.ntmps148
 go_wp2_with (first
  | (go_at_call 74; refine (top_nil _).mono ?_; rintro e w1 ⟨rfl,rfl⟩)
  | (go_at_call 164; refine (set_calls ⟨k,x,false⟩ Tt.no none _ HS.out HN.out).mono ?_; rintro e w2 ⟨A2,rfl,hn2,hb2⟩; have HN2 := hQ_ hn2; have HB2 := hQ_ hb2; clear hn2 hb2))
 go_ret
 exact ⟨_,_,rfl,vn_new HN2.out,HB2.out.alloc HB2.out.size _⟩
theorem cut_nil (k : ByteArray) (w : World) : Calls Tryz.prog 158 #[.pointer none,.string k] w fun e w' => e = .returned (.pointer none) ∧ w = w' := by
 go_enter Tryz.func158,Tryz.ntmps158
 go_wp2_with (go_at_call 42; refine (get_nil _ _).mono ?_; rintro e w1 ⟨rfl,rfl⟩; dsimp only [GotV])
 go_ret
 exact ⟨rfl,rfl⟩
theorem len_nil (w : World) : Calls Tryz.prog 72 #[.pointer none] w fun e w' => e = .returned (.int .i64 (0 : Nat)) ∧ w = w' := by
 have HN : Hid (Nd w Tt.no none) := hQ_ rfl
 go_enter Tryz.func72,Tryz.ntmps72
 go_wp2_with (first
  | (go_at_call 74; refine (top_nil _).mono ?_; rintro e w1 ⟨rfl,rfl⟩)
  | (go_at_call 96; refine (size_calls Tt.no none _ HN.out 0 rfl).mono ?_; rintro e w1 ⟨rfl,rfl⟩))
 go_ret
 exact ⟨rfl,rfl⟩
theorem range_nil (x y : ByteArray) (w : World) : Calls Tryz.prog 44 #[.pointer none,.string x,.string y] w (Made [] w) := by
 have HN : Hid (Nd w Tt.no none) := hQ_ rfl
 have HR : Hid (Rise Tt.no.ino) := hQ_ List.Pairwise.nil
 have G := hQ_ (gather_calls x y Tt.no none w w.heap.size (.slice none 0 0) [] HR.out HN.out (So.nil_ _ _ _ _) (Nat.le_refl _) (by decide))
 go_enter Tryz.func44,Tryz.ntmps44
 go_wp2_with (first
  | (go_at_call 74; refine (top_nil _).mono ?_; rintro e w1 ⟨rfl,rfl⟩)
  | (go_at_call 77; refine G.out.mono ?_; rintro e w2 ⟨v,rfl,ho,hb2,_,_⟩; have HO := hQ_ ho; have HB2 := hQ_ hb2; clear ho hb2))
 go_ret
 exact ⟨_,rfl,HO.out,HB2.out⟩
def TN (w : World) (v : Value) (L : List Pr) : Prop := (v = .pointer none ∧ L = []) ∨ ∃ h,TRep w v L h
theorem TN.of {h : Nat} (r : TRep w v L h) : TN w v L := .inr ⟨h,r⟩
theorem TN.keep (h : TN w v L) (hk : Kept w w') : TN w' v L := by
 rcases h with h | ⟨n,h⟩
 ·exact .inl h
 ·exact .inr ⟨n,tkeep h hk⟩
theorem TN.below (h : TN w v L) (hb : Below w.heap.size w w') : TN w' v L := h.keep (Kept.of_below hb)
theorem TN.form (h : TN w v L) : ∃ A,v = .pointer A := by
 rcases h with ⟨rfl,_⟩ | ⟨n,h⟩
 ·exact ⟨_,rfl⟩
 ·obtain ⟨b,rfl,_⟩ := tform h
  exact ⟨_,rfl⟩
theorem tnset (k x : ByteArray) (h : TN w v L) (hl : L.length ≤ 50000) : Calls Tryz.prog 148 #[v,.string k,.string x] w fun e w' => ∃ v',e = .returned v' ∧ TN w' v' (putL k x L) ∧ Below w.heap.size w w' := by
 rcases h with ⟨rfl,rfl⟩ | ⟨n,h⟩
 ·refine (set_nil k x w).mono ?_
  rintro e w' ⟨b',A',rfl,hv',hb'⟩
  exact ⟨_,rfl,.of (h := (Tt.no.set ⟨k,x,false⟩).ht) ⟨b',A',_,rfl,hv',Tt.ino_set .no k x List.Pairwise.nil,rise_put List.Pairwise.nil k x,(Tt.set_avl .no _ trivial).1,rfl⟩,hb'⟩
 ·refine (tset k x h hl).mono ?_
  rintro e w' ⟨v',h',rfl,hr,hb⟩
  exact ⟨v',rfl,.of hr,hb⟩
theorem tncut (k : ByteArray) (h : TN w v L) (hl : L.length ≤ 50000) : Calls Tryz.prog 158 #[v,.string k] w fun e w' => ∃ v',e = .returned v' ∧ TN w' v' (cutL k L) ∧ Below w.heap.size w w' := by
 rcases h with ⟨rfl,rfl⟩ | ⟨n,h⟩
 ·refine (cut_nil k w).mono ?_
  rintro e w' ⟨rfl,rfl⟩
  exact ⟨_,rfl,.inl ⟨rfl,rfl⟩,Below.refl _ _⟩
 ·refine (tcut k h hl).mono ?_
  rintro e w' ⟨v',h',rfl,hr,hb⟩
  exact ⟨v',rfl,.of hr,hb⟩
theorem tnget (k : ByteArray) (h : TN w v L) (hl : L.length ≤ 50000) : Calls Tryz.prog 42 #[v,.string k] w fun e w' => e = .returned (GotV (getL k L)) ∧ w = w' := by
 rcases h with ⟨rfl,rfl⟩ | ⟨n,h⟩
 ·exact get_nil k w
 ·exact tget k h hl
theorem tnlen (h : TN w v L) (hl : L.length ≤ 50000) : Calls Tryz.prog 72 #[v] w fun e w' => e = .returned (.int .i64 (L.length : Nat)) ∧ w = w' := by
 rcases h with ⟨rfl,rfl⟩ | ⟨n,h⟩
 ·exact len_nil w
 ·exact tlen h hl
theorem tnrange (x y : ByteArray) (h : TN w v L) (hl : L.length ≤ 50000) : Calls Tryz.prog 44 #[v,.string x,.string y] w (Made (rangeL x y L) w) := by
 rcases h with ⟨rfl,rfl⟩ | ⟨n,h⟩
 ·exact range_nil x y w
 ·exact trange x y h hl
end Go.Proofs.YtogdjbhjgbnicaaGreatDoor.ViewKn