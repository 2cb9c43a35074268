import Derived.Test.YtogdjbhjgbnicaaGreatDoorSq
import Derived.Test.YtogdjbhjgbnicaaGreatDoorKeysL
import Derived.Test.YtogdjbhjgbnicaaGreatDoorKeysV
import Derived.Deep.Onto
set_option maxHeartbeats 16000000
set_option linter.unusedVariables false
set_option linter.unusedSimpArgs false
set_option maxRecDepth 100000
namespace Go.Proofs.YtogdjbhjgbnicaaGreatDoor.KeysC
open Go.RowKit
open Byte PackM PackV KeysM KeysR KeysS KeysL KeysV
theorem head_calls (c ino : Int) (w : World) (hc0 : 0 ≤ c) (hc1 : c ≤ 255) (h0 : 0 ≤ ino) (h1 : ino ≤ 4294967295) :
 Calls Tryz.prog 149 #[.int .u8 c,.int .u32 ino] w (Made (kq c ino) w) := by
 have hbw := bN_ w (.cells #[.int .u8 c] 5)
 have HB := hQ_ hbw
 have HP := hQ_ (put_calls (some ⟨w.heap.size,0,none⟩) 1 1 [c] 4 ino (w.alloc (.cells #[.int .u8 c] 5)) (Bs.new_ w 5 (0,0) [c] (by intro z hz; rw [List.mem_singleton] at hz; omega)) (by omega) (by omega) (by omega))
 rw [kq_of] at HP
 have HL := hQ_ (kq_len c ino)
 clear hbw
 obtain ⟨zs,hzs⟩ : ∃ z,kq c ino = z := ⟨_,rfl⟩
 rw [hzs] at HP HL ⊢
 clear hzs
 go_enter Tryz.func149,Tryz.ntmps149
 go_wp2_with (go_at_call 126; refine HP.out.mono ?_; intro e w2 hm; obtain ⟨g,cap,rfl,ho,hb2⟩ := hm.at_ HL.out; have HO : Hid (Ob w2 w.heap.size 5 g 5 cap zs) := hQ_ ⟨ho.1,ho.2.1,World.ownsRow.mono ho.2.2 HB.out.size⟩; have HB2 := hQ_ (keeps HB.out hb2); clear hm ho hb2)
 go_ret
 exact Made.of HL.out rfl HO.out HB2.out
theorem inode_calls : InodeOk := by
 intro ino w h0 h1
 unfold Txt
 have HQ := hQ_ (fun w => head_calls 73 ino w (by omega) (by omega) h0 h1)
 have HK : Hid (str (kq 73 ino) = kI ino) := hQ_ rfl
 have HL := hQ_ (kq_len 73 ino)
 obtain ⟨zs,hzs⟩ : ∃ z,kq 73 ino = z := ⟨_,rfl⟩
 obtain ⟨ss,hss⟩ : ∃ z,kI ino = z := ⟨_,rfl⟩
 rw [hzs] at HQ HK HL
 rw [hss] at HK ⊢
 clear hzs hss
 go_enter Tryz.func123,Tryz.ntmps123
 go_wp2_with (go_at_call 149; refine (HQ.out _).mono ?_; intro e w2 hm; obtain ⟨g,cap,rfl,ho,hb2⟩ := hm.at_ HL.out; have hs := ho.str_ (P := Tryz.prog) 39 9 Tryz.underlying39 Tryz.underlying5 Tryz.underlying9; rw [HK.out] at hs; have HB2 := hQ_ hb2; clear hm ho hb2)
 go_ret
 exact ⟨rfl,HB2.out⟩
theorem entry_calls : EntryOk := by
 intro ino name w h0 h1 hn
 unfold Txt
 by_cases hl : 32 < name.size
 ·have he : kE ino name = E0 := if_pos hl
  rw [he]
  have d : decide ((32 : Int) < (name.size : Int)) = true := by simp; omega
  clear he
  go_enter Tryz.func125,Tryz.ntmps125
  go_wp2_with fail
  go_ret
  exact ⟨rfl,Below.refl _ _⟩
 ·have he : kE ino name = ks 69 ino ++ name := if_neg hl
  rw [he]
  have d : decide ((32 : Int) < (name.size : Int)) = false := by simp; omega
  have hs : ((ks 69 ino).size : Int) ≤ 8388608 := by rw [ks_size]; omega
  have hs2 : (name.size : Int) ≤ 8388608 := by omega
  have HQ := hQ_ (fun w => head_calls 69 ino w (by omega) (by omega) h0 h1)
  have HK : Hid (str (kq 69 ino) = ks 69 ino) := hQ_ rfl
  have HL := hQ_ (kq_len 69 ino)
  obtain ⟨zs,hzs⟩ : ∃ z,kq 69 ino = z := ⟨_,rfl⟩
  obtain ⟨ss,hss⟩ : ∃ z,ks 69 ino = z := ⟨_,rfl⟩
  rw [hzs] at HQ HK HL
  rw [hss] at HK hs ⊢
  clear he hzs hss
  go_enter Tryz.func125,Tryz.ntmps125
  go_wp2_with (go_at_call 149; refine (HQ.out _).mono ?_; intro e w2 hm; obtain ⟨g,cap,rfl,ho,hb2⟩ := hm.at_ HL.out; have hst := ho.str_ (P := Tryz.prog) 39 9 Tryz.underlying39 Tryz.underlying5 Tryz.underlying9; rw [HK.out] at hst; have HB2 := hQ_ hb2; clear hm ho hb2)
  go_ret
  exact ⟨rfl,HB2.out⟩
theorem low2 (n : Int) (h0 : 0 ≤ n) (h1 : n ≤ 65535) : low (width 2) n = [n / 256,n % 256] := by
 have e : low (width 2) n = [n / 256 % 256,n % 256] := by
  show low 2 n = _
  simp [low]
 rw [e,show n / 256 % 256 = n / 256 by omega]
theorem block_calls : BlockOk := by
 intro ino n w h0 h1 hn0 hn1
 unfold Txt
 have HQ := hQ_ (fun w => head_calls 68 ino w (by omega) (by omega) h0 h1)
 rcases (show n < 0 ∨ (0 ≤ n ∧ 65535 < n) ∨ (0 ≤ n ∧ n ≤ 65535) by omega) with hl | ⟨hl,hl2⟩ | ⟨hl,hl2⟩
 ·have he : kD ino n = E0 := if_pos (.inl hl)
  rw [he]
  have d : decide (n < (0 : Int)) = true := by simpa using hl
  clear he
  go_enter Tryz.func135,Tryz.ntmps135
  go_wp2_with fail
  go_ret
  exact ⟨rfl,Below.refl _ _⟩
 ·have he : kD ino n = E0 := if_pos (.inr (by omega))
  rw [he]
  have d : decide (n < (0 : Int)) = false := by simp; omega
  have d2 : decide ((65535 : Int) < n) = true := by simpa using hl2
  clear he
  go_enter Tryz.func135,Tryz.ntmps135
  go_wp2_with fail
  go_ret
  exact ⟨rfl,Below.refl _ _⟩
 ·have he : kD ino n = str (kq 68 ino ++ low (width 2) n) := by
   rw [low2 n hl hl2,← str_append]
   exact if_neg (by omega)
  rw [he]
  have d : decide (n < (0 : Int)) = false := by simp; omega
  have d2 : decide ((65535 : Int) < n) = false := by simp; omega
  have r1 : IntKind.u64.wrap n = n := by rw [IntKind.wrap_u64]; omega
  have HL := hQ_ (kq_len 68 ino)
  have HL2 : Hid ((kq 68 ino ++ low (width 2) n).length = 7) := hQ_ (by rw [List.length_append,kq_len,low_len]; rfl)
  obtain ⟨q,hq⟩ : ∃ q,kq 68 ino = q := ⟨_,rfl⟩
  rw [hq] at HQ HL HL2 ⊢
  obtain ⟨r,hr⟩ : ∃ r,q ++ low (width 2) n = r := ⟨_,rfl⟩
  obtain ⟨ss,hss⟩ : ∃ z,str r = z := ⟨_,rfl⟩
  rw [hr] at HL2 ⊢
  rw [hss]
  have HR := hQ_ hr
  have HS := hQ_ hss
  clear hq he hr hss
  go_enter Tryz.func135,Tryz.ntmps135
  go_wp2_with fail
  refine (HQ.out _).mono ?_
  intro e w2 hm
  obtain ⟨g,cap,rfl,ho,hb2⟩ := hm.at_ HL.out
  have HB2 := hQ_ hb2
  have HP := hQ_ (put_calls (some ⟨g,0,none⟩) 5 cap q 2 n w2 ho.bs (by omega) (by omega) (by omega))
  rw [HR.out] at HP
  clear hm ho hb2
  go_wp2_with fail
  refine HP.out.mono ?_
  intro e w3 hm
  obtain ⟨g3,cap3,rfl,ho,hb3⟩ := hm.at_ HL2.out
  have hst := ho.str_ (P := Tryz.prog) 39 9 Tryz.underlying39 Tryz.underlying5 Tryz.underlying9
  rw [HS.out] at hst
  have HB3 := hQ_ (keeps HB2.out hb3)
  clear hm ho hb3
  go_wp2_with fail
  go_ret
  exact ⟨rfl,HB3.out⟩
end Go.Proofs.YtogdjbhjgbnicaaGreatDoor.KeysC