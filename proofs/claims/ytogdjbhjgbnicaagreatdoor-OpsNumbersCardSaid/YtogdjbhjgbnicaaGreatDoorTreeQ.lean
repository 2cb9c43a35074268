import Derived.Test.YtogdjbhjgbnicaaGreatDoorSq
import Derived.Test.YtogdjbhjgbnicaaGreatDoorTreeD
import Derived.Deep.LoopGhost
import Derived.Laws.ResultCell
set_option maxHeartbeats 16000000
set_option linter.unusedVariables false
set_option linter.unusedSimpArgs false
set_option maxRecDepth 100000
namespace Go.Proofs.YtogdjbhjgbnicaaGreatDoor.TreeQ
open Go.RowKit
open Byte KeysM TreeM Own Lst TreeR TreeL TreeB TreeD
def Vn (w : World) (b : Nat) (A : Option Addr) (t : Tt) : Prop := Blk w b #[.pointer A] 76 ∧ Nd w t A
theorem get_ino_l {l r : Tt} {q : Pr} {k : ByteArray} (h : Rise (Tt.nd l q r).ino) (hk : kl k q.key = true) : getL k (Tt.nd l q r).ino = getL k l.ino := Tt.get_l h hk
theorem get_ino_r {l r : Tt} {q : Pr} {k : ByteArray} (h : Rise (Tt.nd l q r).ino) (hk : kl q.key k = true) : getL k (Tt.nd l q r).ino = getL k r.ino := Tt.get_r h hk
theorem get_ino_m {l r : Tt} {q : Pr} {k : ByteArray} (h : Rise (Tt.nd l q r).ino) (hk : k = q.key) : getL k (Tt.nd l q r).ino = some q := by
 subst hk
 exact Tt.get_m h
theorem neq_false {a b : ByteArray} (h : a ≠ b) : (a.toList == b.toList) = false := by rw [eq_list,decide_eq_false h]
theorem neq_true {a b : ByteArray} (h : a = b) : (a.toList == b.toList) = true := by rw [eq_list,decide_eq_true h]
theorem get_calls (b : Nat) (A : Option Addr) (t : Tt) (k : ByteArray) (w : World) (h : Vn w b A t) (hr : Rise t.ino) (G : Option Pr) (hG : getL k t.ino = G) :
 Calls Tryz.prog 42 #[.pointer (some ⟨b,0,none⟩),.string k] w fun e w' => e = .returned (GotV G) ∧ w = w' := by
 have HN := hQ_ h.2
 have HT := hQ_ h.1
 have HR := hQ_ hr
 have HG := hQ_ hG
 clear h hr hG
 go_enter Tryz.func42,Tryz.ntmps42
 go_wp2_with (go_at_call 74; refine (top_calls b A _ HT.out).mono ?_; rintro e w1 ⟨rfl,rfl⟩)
 go_loopg [6] t.sz (fun m n wr => ∃ (t' : Tt) (A' : Option Addr),n = .pointer A' ∧ Hid (Nd w t' A') ∧ Hid (Rise t'.ino) ∧ Hid (getL k t'.ino = G) ∧ Hid (t'.sz ≤ m) ∧ wr = w)
 case atStart => exact ⟨t,A,rfl,HN,HR,HG,hQ_ (Nat.le_refl _),rfl⟩
 case round =>
  obtain ⟨t',A',rfl,HN',HR',HG',HK,rfl⟩ := hrel
  cases t' with
  | no =>
    obtain rfl : A' = none := HN'.out
    have hG : none = G := HG'.out
    subst hG
    go_wp2_with fail
    go_ret2
    exact ⟨rfl,rfl⟩
  | nd l q r =>
    obtain ⟨d,C,D,rfl,hk,hl,hr⟩ := HN'.out
    have c0 := cC2 hk
    have HKK := hQ_ hk
    have HL := hQ_ hl
    have HRR := hQ_ hr
    clear hk hl hr
    by_cases he : k = q.key
    ·have z1 : (q.key.toList == k.toList) = true := neq_true he.symm
     have hG : some q = G := (get_ino_m HR'.out he).symm.trans HG'.out
     subst hG
     clear he
     go_wp2_with fail
     go_ret2
     exact ⟨rfl,rfl⟩
    ·have z1 : (q.key.toList == k.toList) = false := neq_false fun h => he h.symm
     cases h1 : kl k q.key with
     | true =>
       have HG2 := hQ_ ((get_ino_l HR'.out h1).symm.trans HG'.out)
       have HR2 := hQ_ (Tt.rise_mid HR'.out).1
       have H1 := hQ_ h1
       clear he h1
       go_wp2_with (go_at_call 75; refine (towards_l d q C D _ _ k _ HKK.out H1.out).mono ?_; rintro e w1 ⟨rfl,rfl⟩)
       go_roundg l.sz
       case rel => exact ⟨l,_,rfl,HL,HR2,HG2,hQ_ (Nat.le_refl _),rfl⟩
       case measure => have := HK.out; simp only [Tt.sz] at this; omega
     | false =>
       have h2 : kl q.key k = true := by
        cases h3 : kl q.key k with
        | true => rfl
        | false => exact absurd (kl_tri h1 h3) he
       have HG2 := hQ_ ((get_ino_r HR'.out h2).symm.trans HG'.out)
       have HR2 := hQ_ (Tt.rise_mid HR'.out).2.1
       have H1 := hQ_ h1
       clear he h1 h2
       go_wp2_with (go_at_call 75; refine (towards_r d q C D _ _ k _ HKK.out H1.out).mono ?_; rintro e w1 ⟨rfl,rfl⟩)
       go_roundg r.sz
       case rel => exact ⟨r,_,rfl,HRR,HR2,HG2,hQ_ (Nat.le_refl _),rfl⟩
       case measure => have := HK.out; simp only [Tt.sz] at this; omega
end Go.Proofs.YtogdjbhjgbnicaaGreatDoor.TreeQ