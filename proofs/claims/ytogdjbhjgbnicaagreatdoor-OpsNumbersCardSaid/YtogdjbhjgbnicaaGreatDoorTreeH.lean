import Derived.Test.YtogdjbhjgbnicaaGreatDoorTreeG
import Derived.Test.YtogdjbhjgbnicaaGreatDoorChg
set_option linter.unusedVariables false
set_option linter.unusedSimpArgs false
namespace Go.Proofs.YtogdjbhjgbnicaaGreatDoor.TreeH
open Go.RowKit
open Byte KeysM TreeM TreeB TreeD TreeE TreeF TreeG Own Lst TreeR TreeL Chg
variable {w w' : World} {v : Value} {L : List Pr} {h : Nat}
theorem tkeep (hr : TRep w v L h) (hk : Kept w w') : TRep w' v L h := by
 obtain ⟨b,A,t,rfl,hv,rest⟩ := hr
 exact ⟨b,A,t,rfl,⟨hk _ _ _ _ (.inl rfl) hv.1,hv.2.keep hk⟩,rest⟩
theorem trise (hr : TRep w v L h) : Rise L := by
 obtain ⟨b,A,t,rfl,hv,rfl,h2,_⟩ := hr
 exact h2
theorem tform (hr : TRep w v L h) : ∃ b,v = .pointer (some ⟨b,0,none⟩) ∧ b < w.heap.size := by
 obtain ⟨b,A,t,rfl,hv,_⟩ := hr
 exact ⟨b,rfl,hv.1.lt⟩
theorem tset (k x : ByteArray) (hr : TRep w v L h) (hl : L.length ≤ 50000) : Calls Tryz.prog 148 #[v,.string k,.string x] w fun e w' => ∃ v' h',e = .returned v' ∧ TRep w' v' (putL k x L) h' ∧ Below w.heap.size w w' := by
 obtain ⟨b,A,t,rfl,hv,rfl,h2,h3,rfl⟩ := hr
 rw [Tt.sz_ino] at hl
 refine (setm_calls b A t k x w hv (by omega)).mono ?_
 rintro e w' ⟨b',A',rfl,hv',hb'⟩
 exact ⟨_,_,rfl,⟨b',A',_,rfl,hv',Tt.ino_set t k x h2,rise_put h2 k x,(Tt.set_avl t _ h3).1,rfl⟩,hb'⟩
theorem tcut (k : ByteArray) (hr : TRep w v L h) (hl : L.length ≤ 50000) : Calls Tryz.prog 158 #[v,.string k] w fun e w' => ∃ v' h',e = .returned v' ∧ TRep w' v' (cutL k L) h' ∧ Below w.heap.size w w' := by
 obtain ⟨b,A,t,rfl,hv,rfl,h2,h3,rfl⟩ := hr
 rw [Tt.sz_ino] at hl
 cases hG : getL k t.ino with
 | none =>
   refine (cutm_no b A t k w hv h2 hG).mono ?_
   rintro e w' ⟨b',A',rfl,hv',hb'⟩
   exact ⟨_,_,rfl,⟨b',A',_,rfl,hv',(cut_none hG).symm,rise_cut h2 k,h3,rfl⟩,hb'⟩
 | some p =>
   refine (cutm_yes b A t k w hv h2 (by omega) p hG (has_get hG)).mono ?_
   rintro e w' ⟨b',A',rfl,hv',hb'⟩
   exact ⟨_,_,rfl,⟨b',A',_,rfl,hv',Tt.ino_cut t k h2,rise_cut h2 k,(Tt.cut_avl t k h3).1,rfl⟩,hb'⟩
theorem tget (k : ByteArray) (hr : TRep w v L h) (hl : L.length ≤ 50000) : Calls Tryz.prog 42 #[v,.string k] w fun e w' => e = .returned (GotV (getL k L)) ∧ w = w' := by
 obtain ⟨b,A,t,rfl,hv,rfl,h2,h3,rfl⟩ := hr
 exact TreeQ.get_calls b A t k w hv h2 _ rfl
theorem tlen (hr : TRep w v L h) (hl : L.length ≤ 50000) : Calls Tryz.prog 72 #[v] w fun e w' => e = .returned (.int .i64 (L.length : Nat)) ∧ w = w' := by
 obtain ⟨b,A,t,rfl,hv,rfl,h2,h3,rfl⟩ := hr
 exact len_calls b A t w hv _ (Tt.sz_ino t).symm
theorem trange (x y : ByteArray) (hr : TRep w v L h) (hl : L.length ≤ 50000) : Calls Tryz.prog 44 #[v,.string x,.string y] w (Made (rangeL x y L) w) := by
 obtain ⟨b,A,t,rfl,hv,rfl,h2,h3,rfl⟩ := hr
 rw [Tt.sz_ino] at hl
 exact range_made b A t x y w hv h2 (by omega)
end Go.Proofs.YtogdjbhjgbnicaaGreatDoor.TreeH