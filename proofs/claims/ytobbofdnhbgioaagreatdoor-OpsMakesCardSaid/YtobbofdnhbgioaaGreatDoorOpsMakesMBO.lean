import Derived.Test.YtobbofdnhbgioaaGreatDoorKeysN
import Derived.Deep.Onto
import Derived.Test.YtobbofdnhbgioaaGreatDoorSq
import Derived.Test.YtobbofdnhbgioaaGreatDoorOpsMakesMAP
import Derived.LoopTactic
import Derived.RegionTactic
import Derived.ChangeAlike
import Derived.Test.YtobbofdnhbgioaaGreatDoorPackG
import Derived.Deep.RegionLaw
import Derived.Test.YtobbofdnhbgioaaGreatDoorOpsMakesMBI
import Derived.Test.YtobbofdnhbgioaaGreatDoorNodeK
set_option linter.unusedVariables false
set_option linter.unusedSimpArgs false
namespace Go.Proofs.YtobbofdnhbgioaaGreatDoor.KeysL
open Go.RowKit
open Byte KeysM KeysR KeysS KeysN
def Txt (s : ByteArray) (w : World) (e : Ending) (w' : World) : Prop := e = .returned (.string s) ∧ Below w.heap.size w w'
def InodeOk : Prop := ∀ (ino : Int) (w : World),0 ≤ ino → ino ≤ 4294967295 → Calls Tryz.prog 123 #[.int .u32 ino] w (Txt (kI ino) w)
def EntryOk : Prop := ∀ (ino : Int) (name : ByteArray) (w : World),0 ≤ ino → ino ≤ 4294967295 → name.size ≤ 100000 → Calls Tryz.prog 125 #[.int .u32 ino,.string name] w (Txt (kE ino name) w)
def BlockOk : Prop := ∀ (ino n : Int) (w : World),0 ≤ ino → ino ≤ 4294967295 → -9223372036854775808 ≤ n → n ≤ 9223372036854775807 → Calls Tryz.prog 135 #[.int .u32 ino,.int .i64 n] w (Txt (kD ino n) w)
def SplitOk : Prop := ∀ (key : ByteArray) (w : World),key.size ≤ 100000 → Calls Tryz.prog 132 #[.string key] w (SpE (sp key) w)
def NameOk : Prop := ∀ (s : ByteArray) (w : World),s.size ≤ 100000 → Calls Tryz.prog 163 #[.string s] w fun e w' => e = .returned (.bool (nameOk s)) ∧ Below w.heap.size w w'
end Go.Proofs.YtobbofdnhbgioaaGreatDoor.KeysL
set_option maxHeartbeats 16000000
set_option maxRecDepth 100000
namespace Go.Proofs.YtobbofdnhbgioaaGreatDoor.KeysC
open Go.RowKit
open Byte PackM PackV KeysM KeysR KeysS KeysL KeysV
theorem head_calls (c ino : Int) (w : World) (hc0 : 0 ≤ c) (hc1 : c ≤ 255) (h0 : 0 ≤ ino) (h1 : ino ≤ 4294967295) :
 Calls Tryz.prog 149 #[.int .u8 c,.int .u32 ino] w (Made (kq c ino) w) := by
 have hbw := bN_ w (.cells #[.int .u8 c] 5)
 have HB := hQ_ hbw
 have HP := hQ_ (put_calls (some ⟨w.heap.size,0,none⟩) 1 1 [c] 4 ino (w.alloc (.cells #[.int .u8 c] 5)) (Bs.new_ w 5 (0,0) [c] (by intro z hz; rw [List.mem_singleton] at hz; omega)) (by omega) (by omega) (by omega))
 rw [kq_of] at HP
 have HL := hQ_ (kq_len c ino)
 clear hbw
 obtain ⟨zs,hzs⟩ : ∃ z,kq c ino = z := ⟨_,rfl⟩
 rw [hzs] at HP HL ⊢
 clear hzs
 go_enter Tryz.func149,Tryz.ntmps149
 go_wp2_with (go_at_call 126; refine HP.out.mono ?_; intro e w2 hm; obtain ⟨g,cap,rfl,ho,hb2⟩ := hm.at_ HL.out; have HO : Hid (Ob w2 w.heap.size 5 g 5 cap zs) := hQ_ ⟨ho.1,ho.2.1,World.ownsRow.mono ho.2.2 HB.out.size⟩; have HB2 := hQ_ (keeps HB.out hb2); clear hm ho hb2)
 go_ret
 exact Made.of HL.out rfl HO.out HB2.out
theorem inode_calls : InodeOk := by
 intro ino w h0 h1
 unfold Txt
 have HQ := hQ_ (fun w => head_calls 73 ino w (by omega) (by omega) h0 h1)
 have HK : Hid (str (kq 73 ino) = kI ino) := hQ_ rfl
 have HL := hQ_ (kq_len 73 ino)
 obtain ⟨zs,hzs⟩ : ∃ z,kq 73 ino = z := ⟨_,rfl⟩
 obtain ⟨ss,hss⟩ : ∃ z,kI ino = z := ⟨_,rfl⟩
 rw [hzs] at HQ HK HL
 rw [hss] at HK ⊢
 clear hzs hss
 go_enter Tryz.func123,Tryz.ntmps123
 go_wp2_with (go_at_call 149; refine (HQ.out _).mono ?_; intro e w2 hm; obtain ⟨g,cap,rfl,ho,hb2⟩ := hm.at_ HL.out; have hs := ho.str_ (P := Tryz.prog) 39 9 Tryz.underlying39 Tryz.underlying5 Tryz.underlying9; rw [HK.out] at hs; have HB2 := hQ_ hb2; clear hm ho hb2)
 go_ret
 exact ⟨rfl,HB2.out⟩
theorem entry_calls : EntryOk := by
 intro ino name w h0 h1 hn
 unfold Txt
 by_cases hl : 32 < name.size
 ·have he : kE ino name = E0 := if_pos hl
  rw [he]
  have d : decide ((32 : Int) < (name.size : Int)) = true := by simp; omega
  clear he
  go_enter Tryz.func125,Tryz.ntmps125
  go_wp2_with fail
  go_ret
  exact ⟨rfl,Below.refl _ _⟩
 ·have he : kE ino name = ks 69 ino ++ name := if_neg hl
  rw [he]
  have d : decide ((32 : Int) < (name.size : Int)) = false := by simp; omega
  have hs : ((ks 69 ino).size : Int) ≤ 8388608 := by rw [ks_size]; omega
  have hs2 : (name.size : Int) ≤ 8388608 := by omega
  have HQ := hQ_ (fun w => head_calls 69 ino w (by omega) (by omega) h0 h1)
  have HK : Hid (str (kq 69 ino) = ks 69 ino) := hQ_ rfl
  have HL := hQ_ (kq_len 69 ino)
  obtain ⟨zs,hzs⟩ : ∃ z,kq 69 ino = z := ⟨_,rfl⟩
  obtain ⟨ss,hss⟩ : ∃ z,ks 69 ino = z := ⟨_,rfl⟩
  rw [hzs] at HQ HK HL
  rw [hss] at HK hs ⊢
  clear he hzs hss
  go_enter Tryz.func125,Tryz.ntmps125
  go_wp2_with (go_at_call 149; refine (HQ.out _).mono ?_; intro e w2 hm; obtain ⟨g,cap,rfl,ho,hb2⟩ := hm.at_ HL.out; have hst := ho.str_ (P := Tryz.prog) 39 9 Tryz.underlying39 Tryz.underlying5 Tryz.underlying9; rw [HK.out] at hst; have HB2 := hQ_ hb2; clear hm ho hb2)
  go_ret
  exact ⟨rfl,HB2.out⟩
theorem low2 (n : Int) (h0 : 0 ≤ n) (h1 : n ≤ 65535) : low (width 2) n = [n / 256,n % 256] := by
 have e : low (width 2) n = [n / 256 % 256,n % 256] := by
  show low 2 n = _
  simp [low]
 rw [e,show n / 256 % 256 = n / 256 by omega]
theorem block_calls : BlockOk := by
 intro ino n w h0 h1 hn0 hn1
 unfold Txt
 have HQ := hQ_ (fun w => head_calls 68 ino w (by omega) (by omega) h0 h1)
 rcases (show n < 0 ∨ (0 ≤ n ∧ 65535 < n) ∨ (0 ≤ n ∧ n ≤ 65535) by omega) with hl | ⟨hl,hl2⟩ | ⟨hl,hl2⟩
 ·have he : kD ino n = E0 := if_pos (.inl hl)
  rw [he]
  have d : decide (n < (0 : Int)) = true := by simpa using hl
  clear he
  go_enter Tryz.func135,Tryz.ntmps135
  go_wp2_with fail
  go_ret
  exact ⟨rfl,Below.refl _ _⟩
 ·have he : kD ino n = E0 := if_pos (.inr (by omega))
  rw [he]
  have d : decide (n < (0 : Int)) = false := by simp; omega
  have d2 : decide ((65535 : Int) < n) = true := by simpa using hl2
  clear he
  go_enter Tryz.func135,Tryz.ntmps135
  go_wp2_with fail
  go_ret
  exact ⟨rfl,Below.refl _ _⟩
 ·have he : kD ino n = str (kq 68 ino ++ low (width 2) n) := by
   rw [low2 n hl hl2,← str_append]
   exact if_neg (by omega)
  rw [he]
  have d : decide (n < (0 : Int)) = false := by simp; omega
  have d2 : decide ((65535 : Int) < n) = false := by simp; omega
  have r1 : IntKind.u64.wrap n = n := by rw [IntKind.wrap_u64]; omega
  have HL := hQ_ (kq_len 68 ino)
  have HL2 : Hid ((kq 68 ino ++ low (width 2) n).length = 7) := hQ_ (by rw [List.length_append,kq_len,low_len]; rfl)
  obtain ⟨q,hq⟩ : ∃ q,kq 68 ino = q := ⟨_,rfl⟩
  rw [hq] at HQ HL HL2 ⊢
  obtain ⟨r,hr⟩ : ∃ r,q ++ low (width 2) n = r := ⟨_,rfl⟩
  obtain ⟨ss,hss⟩ : ∃ z,str r = z := ⟨_,rfl⟩
  rw [hr] at HL2 ⊢
  rw [hss]
  have HR := hQ_ hr
  have HS := hQ_ hss
  clear hq he hr hss
  go_enter Tryz.func135,Tryz.ntmps135
  go_wp2_with fail
  refine (HQ.out _).mono ?_
  intro e w2 hm
  obtain ⟨g,cap,rfl,ho,hb2⟩ := hm.at_ HL.out
  have HB2 := hQ_ hb2
  have HP := hQ_ (put_calls (some ⟨g,0,none⟩) 5 cap q 2 n w2 ho.bs (by omega) (by omega) (by omega))
  rw [HR.out] at HP
  clear hm ho hb2
  go_wp2_with fail
  refine HP.out.mono ?_
  intro e w3 hm
  obtain ⟨g3,cap3,rfl,ho,hb3⟩ := hm.at_ HL2.out
  have hst := ho.str_ (P := Tryz.prog) 39 9 Tryz.underlying39 Tryz.underlying5 Tryz.underlying9
  rw [HS.out] at hst
  have HB3 := hQ_ (keeps HB2.out hb3)
  clear hm ho hb3
  go_wp2_with fail
  go_ret
  exact ⟨rfl,HB3.out⟩
end Go.Proofs.YtobbofdnhbgioaaGreatDoor.KeysC
namespace Go.Proofs.YtobbofdnhbgioaaGreatDoor.KeysB
open Go.RowKit
open Byte PackM PackV KeysM KeysR KeysS KeysL KeysV KeysC
theorem Bs.front {w : World} {g n : Nat} {xs : List Int} (h : Bs w (some ⟨g,0,none⟩) n xs) (k : Nat) (hk : k ≤ n) : Bs w (some ⟨g,0,none⟩) k (xs.take k) := by
 have := h.sub 0 k (by omega)
 simpa using this
theorem conv_front {w : World} {g n cap : Nat} {xs : List Int} (h : Bs w (some ⟨g,0,none⟩) n xs) (k : Nat) (hk : k ≤ n) {s : ByteArray} (hs : str (xs.take k) = s) : (convert 39 9 (.slice (some ⟨g,0,none⟩) k cap)).run Tryz.prog w = .ok (.string s) w := by
 subst hs
 exact (Bs.front h k hk).str_ 39 9 Tryz.underlying39 Tryz.underlying5 Tryz.underlying9
theorem conv_one_drew (w : World) (y : Int) (h0 : 0 ≤ y) (h1 : y ≤ 255) {s : ByteArray} (hs : str [y] = s) : (convert 39 9 (.slice (some ⟨w.heap.size,0,none⟩) 1 1)).run Tryz.prog (w.alloc (.cells #[.int .u8 y] 5)).drew = .ok (.string s) (w.alloc (.cells #[.int .u8 y] 5)).drew := by
 subst hs
 exact ((Bs.new_ w 5 (0,0) [y] (by intro z hz; simp at hz; omega)).below ((Below.refl _ _).drew)).str_ 39 9 Tryz.underlying39 Tryz.underlying5 Tryz.underlying9
theorem above_calls (g cap : Nat) (xs : List Int) (w : World) (hb : Bs w (some ⟨g,0,none⟩) 5 xs) (hc : 5 ≤ cap) (h0 : xs.getD 0 0 < 255) :
 Calls Tryz.prog 156 #[.slice (some ⟨g,0,none⟩) 5 cap] w fun e w' => ∃ S,e = .returned (.string S) ∧ Hid (Up xs S) ∧ Below w.heap.size w w' := by
 have HB := hQ_ hb
 have H0 := hQ_ h0
 clear hb h0
 go_enter Tryz.func156,Tryz.ntmps156
 go_wp2
 go_loop [3] (fun v => ∃ k : Nat,k < 5 ∧ v = .int .i64 k ∧ Hid (∀ j,k < j → j < 5 → xs.getD j 0 = 255)) (fun v => (intOf v).toNat)
 case atStart => exact ⟨4,by omega,rfl,hQ_ (fun j h1 h2 => by omega)⟩
 case round =>
  obtain ⟨k,hk,rfl,HK⟩ := hrel
  have hcell := HB.out.at_ k hk
  rw [Nat.zero_add] at hcell
  have hbd := HB.out.bd k
  by_cases hx : xs.getD k 0 = 255
  ·rw [hx] at hcell
   have hk1 : 0 < k := by
    rcases Nat.eq_zero_or_pos k with rfl | h
    ·have := H0.out
     omega
    ·exact h
   have HX := hQ_ hx
   clear hx hbd
   go_wp2
   go_round
   case rel => exact ⟨k - 1,by omega,by go_num,hQ_ (fun j h1 h2 => (by
    rcases Nat.lt_or_ge k j with h | h
    ·exact HK.out j h h2
    ·obtain rfl : j = k := by omega
     exact HX.out))⟩
   case measure => simp [intOf]; omega
  ·have hUp : Up xs (str (xs.take k ++ [xs.getD k 0 + 1])) := ⟨k,by rw [HB.out.len]; exact hk,by omega,fun j h1 h2 => HK.out j h1 (by rw [← HB.out.len]; exact h2),txt_str _ (by
    intro z hz
    rcases List.mem_append.1 hz with h | h
    ·exact HB.out.2.1 z (List.mem_of_mem_take h)
    ·rw [List.mem_singleton] at h
     omega)⟩
   rw [← str_append] at hUp
   have HU := hQ_ hUp
   have hy : (xs.getD k 0 == 255) = false := by rw [beq_eq_false_iff_ne]; exact hx
   have hz1 : ((str (xs.take k)).size : Int) ≤ 8388608 := by rw [str_size,List.length_take,HB.out.len]; omega
   have hz2 : ((str [xs.getD k 0 + 1]).size : Int) ≤ 8388608 := by rw [str_size]; simp
   generalize hyy : xs.getD k 0 = y at hcell hbd hx hy HU hz2
   obtain ⟨s1,hs1⟩ : ∃ s,str (xs.take k) = s := ⟨_,rfl⟩
   obtain ⟨s2,hs2⟩ : ∃ s,str [y + 1] = s := ⟨_,rfl⟩
   rw [hs1] at HU hz1
   rw [hs2] at HU hz2
   have hkc : k ≤ cap := by omega
   have hk5 : (k : Int) < 5 := by omega
   have c1 := conv_front (cap := cap) (HB.out.below ((Below.refl _ _).drew)) k (by omega) hs1
   have hb1 := bN_ w (.cells #[.int .u8 (y + 1)] 5)
   have c3 := conv_front (cap := cap) (HB.out.below hb1.drew) k (by omega) hs1
   have c2 := conv_one_drew w (y + 1) (by omega) (by omega) hs2
   have r1 : IntKind.u8.wrap (y + 1) = y + 1 := by rw [IntKind.wrap_u8]; omega
   have hq9 : ¬ 9223372036854775807 < s1.size + s2.size := by omega
   have HBB := hQ_ hb1
   clear hx hyy hs1 hs2 hUp hb1
   go_wp2
   go_region
   all_goals
    go_wp2
    go_ret
    exact ⟨_,rfl,HU,HBB.out.drew⟩
theorem kq_front (c ino : Int) : (kq c ino).getD 0 0 = c := rfl
theorem above_of {zs : List Int} {w w1 v : World} {g cap : Nat} {c : Int} (hf : zs.getD 0 0 = c) (hc : c < 255) (ho : Ob w1 w.heap.size 5 g 5 cap zs) (hv : Below w1.heap.size w1 v) :
 Calls Tryz.prog 156 #[.slice (some ⟨g,0,none⟩) 5 cap] v fun e w' => ∃ S,e = .returned (.string S) ∧ Hid (Up zs S) ∧ Below v.heap.size v w' :=
 above_calls g cap zs v (ho.bs.below hv) ho.capLe (by rw [hf]; exact hc)
theorem conv_after {zs : List Int} {w1 v : World} {g cap : Nat} {s : ByteArray} (hb : Bs w1 (some ⟨g,0,none⟩) 5 zs) (hs : str zs = s) (hv : Below w1.heap.size w1 v) :
 (convert 39 9 (.slice (some ⟨g,0,none⟩) 5 cap)).run Tryz.prog v = .ok (.string s) v := by
 subst hs
 exact (hb.below hv).str_ 39 9 Tryz.underlying39 Tryz.underlying5 Tryz.underlying9
theorem up_size {xs : List Int} {S : ByteArray} (h : Up xs S) : S.size ≤ xs.length := by
 obtain ⟨k,hk,_,_,e⟩ := h
 have := congrArg List.length e
 rw [txt_len,List.length_append,List.length_take] at this
 simp at this
 omega
theorem entries_small (ino : Int) (w : World) (h0 : 0 ≤ ino) (h1 : ino ≤ 4294967295) : Calls Tryz.prog 141 #[.int .u32 ino] w fun e w' => ∃ a b,e = .returned (.tuple #[.string a,.string b]) ∧ Hid (Rng a b fun s => decide (s.letter = 69) && decide (s.ino = ino)) ∧ a.size ≤ 7 ∧ b.size ≤ 7 ∧ Below w.heap.size w w' := by
 have HQ := hQ_ (fun w => head_calls 69 ino w (by omega) (by omega) h0 h1)
 have HL := hQ_ (kq_len 69 ino)
 have HF := hQ_ (kq_front 69 ino)
 have HR : Hid (∀ a b,txt a = kq 69 ino → Up (kq 69 ino) b → Rng a b fun s => decide (s.letter = 69) && decide (s.ino = ino)) := hQ_ (fun a b ha hb => rng_entries ha hb h0 h1)
 have HT := hQ_ (ks_txt (c := 69) (ino := ino) (by omega) (by omega))
 have HK : Hid (str (kq 69 ino) = ks 69 ino) := hQ_ rfl
 generalize ks 69 ino = ss at HT HK
 generalize kq 69 ino = zs at HQ HL HF HR HT HK
 go_enter Tryz.func141,Tryz.ntmps141
 go_wp2_with fail
 refine (HQ.out _).mono ?_
 intro e w2 hm
 obtain ⟨g,cap,rfl,ho,hb2⟩ := hm.at_ HL.out
 have HB2 := hQ_ hb2
 have HBS := hQ_ ho.bs
 have AB := hQ_ (above_of HF.out (by omega) ho ((Below.refl _ _).drew))
 have c1 := conv_after (cap := cap) ho.bs HK.out ((Below.refl _ _).drew)
 clear hm ho hb2
 go_wp2_with fail
 go_region_law (go_simp; go_at_call 156; refine AB.out.mono ?_; rintro e w3 ⟨S,rfl,HU,hb3⟩; have c4 := conv_after (cap := cap) HBS.out HK.out (keeps ((Below.refl _ _).drew) hb3); have HB3 := hQ_ (keeps HB2.out (keeps ((Below.refl _ _).drew) hb3)); clear hb3)
 all_goals
  go_wp2_with fail
  go_ret2
  exact ⟨ss,S,rfl,hQ_ (HR.out ss S HT.out HU.out),by have := congrArg List.length HT.out; rw [txt_len,HL.out] at this; omega,by have := up_size HU.out; rw [HL.out] at this; omega,HB3.out⟩
end Go.Proofs.YtobbofdnhbgioaaGreatDoor.KeysB
namespace Go.Proofs.YtobbofdnhbgioaaGreatDoor.KeysD
open Go.RowKit
open Byte PackM PackV PackG ConvS KeysM KeysR KeysS KeysL KeysV KeysC KeysB Still
theorem split_out (key : ByteArray) (w : World) (h : key.size < 5 ∨ 37 < key.size) (hk : key.size ≤ 100000) : Calls Tryz.prog 132 #[.string key] w (SpE (sp key) w) := by
 have hs : (key.size : Int) ≤ 9223372036854775807 := by omega
 have e : sp key = ⟨0,0,E0,0⟩ := by
  rcases h with h | h
  ·exact sp_short h
  ·exact sp_none (by omega) (by omega) (by omega)
 rw [e]
 rcases h with h | h
 ·have d : decide ((key.size : Int) < 5) = true := by simp; omega
  clear h e
  go_enter Tryz.func132,Tryz.ntmps132
  go_wp2_with fail
  refine bodyPost_ret (results_tmp4 rfl _ _ _) rfl ?_
  exact ⟨rfl,Below.refl _ _⟩
 ·have d : decide ((key.size : Int) < 5) = false := by simp; omega
  have d2 : decide ((37 : Int) < (key.size : Int)) = true := by simp; omega
  clear h e
  go_enter Tryz.func132,Tryz.ntmps132
  go_wp2_with fail
  refine bodyPost_ret (results_tmp4 rfl _ _ _) rfl ?_
  exact ⟨rfl,Below.refl _ _⟩
structure Fr (key : ByteArray) (w w1 : World) (n cap : Nat) (N y : Int) : Prop where
 size : key.size = n
 lo : 5 ≤ n
 hi : n ≤ 37
 fit : n ≤ cap
 run : (convert 9 39 (.string key)).run Tryz.prog w = .ok (.slice (some ⟨w.heap.size,0,none⟩) n cap) w1
 get : Calls Tryz.prog 157 #[.slice (some ⟨w.heap.size,0,none⟩) n cap,.int .i64 1,.int .i64 4] w1 fun e w' => e = .returned (.tuple #[.int .u64 N,.int .i64 5,.int .i64 0]) ∧ w1 = w'
 below : Below w.heap.size w w1
 bs : Bs w1 (some ⟨w.heap.size,0,none⟩) n (txt key)
 num : getn (txt key) 1 4 = N
 first : (txt key).getD 0 0 = y
theorem fr_of (key : ByteArray) (w : World) (n : Nat) (hn : key.size = n) (h : 5 ≤ n) (h' : n ≤ 37) : ∃ w1 cap,Fr key w w1 n cap (getn (txt key) 1 4) ((txt key).getD 0 0) := by
 obtain ⟨cap,w1,hrun,hf,hb1⟩ := conv_key w key
 have hgo := g_ok (txt key) 1 4 (by have := txt_len key; omega) (by have := txt_len key; rw [show width 4 = 4 from rfl]; omega)
 have hget := get_calls (some ⟨w.heap.size,0,none⟩) n cap (txt key) 1 4 w1 (by rw [← hn]; exact hf.bs) (by omega) (by omega) (by omega) (by omega) (by omega)
 rw [hgo.1,hgo.2.1,hgo.2.2] at hget
 rw [hn] at hrun
 exact ⟨w1,cap,hn,h,h',by rw [← hn]; exact hf.fit,hrun,hget,hb1,by rw [← hn]; exact hf.bs,rfl,rfl⟩
theorem rest_txt {key : ByteArray} {n : Nat} (hn : key.size = n) : str (((txt key).drop 5).take (n - 5)) = key.extract 5 n := by
 subst hn
 apply txt_inj
 rw [txt_str _ (fun x hx => txt_bd key x (List.mem_of_mem_drop (List.mem_of_mem_take hx))),txt_drop,List.take_of_length_le]
 rw [List.length_drop,txt_len]
 omega
theorem two_bytes {key : ByteArray} (hn : key.size = 7) : getn ((txt key).drop 5) 0 2 = 256 * (txt key).getD 5 0 + (txt key).getD 6 0 := by
 have hl : ((txt key).drop 5).length = 2 := by rw [List.length_drop,txt_len]; omega
 have g5 : (txt key).getD 5 0 = ((txt key).drop 5).getD 0 0 := by simp [List.getD_eq_getElem?_getD]
 have g6 : (txt key).getD 6 0 = ((txt key).drop 5).getD 1 0 := by simp [List.getD_eq_getElem?_getD]
 rw [g5,g6]
 generalize (txt key).drop 5 = r at hl
 match r,hl with
 | [p,q],_ =>
   simp [getn,unbe]
   omega
theorem split_i5a (key : ByteArray) (w w1 : World) (n cap : Nat) (N y : Int) (hf : Fr key w w1 n cap N y) (hy : y = 73) (hn : n = 5) (hc : cap = 5) : Calls Tryz.prog 132 #[.string key] w (SpE ⟨73,N,E0,0⟩ w) := by
 have hs : (n : Int) ≤ 9223372036854775807 := by have := hf.hi; omega
 have hNb : 0 ≤ N ∧ N ≤ 4294967295 := by rw [← hf.num]; exact getn_bd key
 have hN0 := hNb.1
 have hN1 := hNb.2
 have r1 : IntKind.u32.wrap N = N := by rw [IntKind.wrap_u32]; omega
 have hrun := hf.run
 have HF := hQ_ hf
 have hsz := hf.size
 have hc0 := hf.bs.at_ 0 (by have := hf.lo; omega)
 rw [hf.first,Nat.zero_add] at hc0
 have hlo := hf.lo
 have hhi := hf.hi
 have hcap := hf.fit
 subst hy
 subst hn
 subst hc
 have d : decide ((5 : Int) < 5) = false := by simp
 have d2 : decide ((37 : Int) < (5 : Int)) = false := by simp
 clear hf hNb
 go_enter Tryz.func132,Tryz.ntmps132
 go_wp2_with (first
  | ((with_reducible refine pick (some 25) ?_); refine wpList_conv rfl 9 39 _ rfl (.string key) (.slice (some ⟨w.heap.size,0,none⟩) 5 5) rfl hrun ?_)
  | (go_at_call 157; (with_reducible refine HF.out.get.mono ?_); rintro e w2 ⟨rfl,rfl⟩))
 refine bodyPost_ret (results_tmp4 rfl _ _ _) rfl ?_
 exact ⟨rfl,HF.out.below⟩
theorem split_i5b (key : ByteArray) (w w1 : World) (n cap : Nat) (N y : Int) (hf : Fr key w w1 n cap N y) (hy : y = 73) (hn : n = 5) (hc : cap ≠ 5) : Calls Tryz.prog 132 #[.string key] w (SpE ⟨73,N,E0,0⟩ w) := by
 have hs : (n : Int) ≤ 9223372036854775807 := by have := hf.hi; omega
 have hNb : 0 ≤ N ∧ N ≤ 4294967295 := by rw [← hf.num]; exact getn_bd key
 have hN0 := hNb.1
 have hN1 := hNb.2
 have r1 : IntKind.u32.wrap N = N := by rw [IntKind.wrap_u32]; omega
 have hrun := hf.run
 have HF := hQ_ hf
 have hsz := hf.size
 have hc0 := hf.bs.at_ 0 (by have := hf.lo; omega)
 rw [hf.first,Nat.zero_add] at hc0
 have hlo := hf.lo
 have hhi := hf.hi
 have hcap := hf.fit
 subst hy
 subst hn
 have d : decide ((5 : Int) < 5) = false := by simp
 have d2 : decide ((37 : Int) < (5 : Int)) = false := by simp
 clear hf hNb
 go_enter Tryz.func132,Tryz.ntmps132
 go_wp2_with (first
  | ((with_reducible refine pick (some 25) ?_); refine wpList_conv rfl 9 39 _ rfl (.string key) (.slice (some ⟨w.heap.size,0,none⟩) 5 cap) rfl hrun ?_)
  | (go_at_call 157; (with_reducible refine HF.out.get.mono ?_); rintro e w2 ⟨rfl,rfl⟩))
 refine bodyPost_ret (results_tmp4 rfl _ _ _) rfl ?_
 exact ⟨rfl,HF.out.below⟩
theorem split_i6 (key : ByteArray) (w w1 : World) (n cap : Nat) (N y : Int) (hf : Fr key w w1 n cap N y) (hy : y = 73) (hn : 5 < n) : Calls Tryz.prog 132 #[.string key] w (SpE ⟨0,0,E0,0⟩ w) := by
 have hs : (n : Int) ≤ 9223372036854775807 := by have := hf.hi; omega
 have hNb : 0 ≤ N ∧ N ≤ 4294967295 := by rw [← hf.num]; exact getn_bd key
 have hN0 := hNb.1
 have hN1 := hNb.2
 have r1 : IntKind.u32.wrap N = N := by rw [IntKind.wrap_u32]; omega
 have hrun := hf.run
 have HF := hQ_ hf
 have hsz := hf.size
 have hc0 := hf.bs.at_ 0 (by have := hf.lo; omega)
 rw [hf.first,Nat.zero_add] at hc0
 have hlo := hf.lo
 have hhi := hf.hi
 have hcap := hf.fit
 subst hy
 have hc5 : ¬ cap = 5 := by omega
 have z0 : (((n - 5 : Nat) : Int) == 0) = false := by rw [beq_eq_false_iff_ne]; omega
 have z1 : decide (0 < n - 5) = true := by simp; omega
 have d : decide ((n : Int) < 5) = false := by simp; omega
 have d2 : decide ((37 : Int) < (n : Int)) = false := by simp; omega
 clear hf hNb
 go_enter Tryz.func132,Tryz.ntmps132
 go_wp2_with (first
  | ((with_reducible refine pick (some 25) ?_); refine wpList_conv rfl 9 39 _ rfl (.string key) (.slice (some ⟨w.heap.size,0,none⟩) n cap) rfl hrun ?_)
  | (go_at_call 157; (with_reducible refine HF.out.get.mono ?_); rintro e w2 ⟨rfl,rfl⟩))
 refine bodyPost_ret (results_tmp4 rfl _ _ _) rfl ?_
 exact ⟨rfl,HF.out.below⟩
theorem split_e5a (key : ByteArray) (w w1 : World) (n cap : Nat) (N y : Int) (hf : Fr key w w1 n cap N y) (hy : y = 69) (hn : n = 5) (hc : cap = 5) : Calls Tryz.prog 132 #[.string key] w (SpE ⟨0,0,E0,0⟩ w) := by
 have hs : (n : Int) ≤ 9223372036854775807 := by have := hf.hi; omega
 have hNb : 0 ≤ N ∧ N ≤ 4294967295 := by rw [← hf.num]; exact getn_bd key
 have hN0 := hNb.1
 have hN1 := hNb.2
 have r1 : IntKind.u32.wrap N = N := by rw [IntKind.wrap_u32]; omega
 have hrun := hf.run
 have HF := hQ_ hf
 have hsz := hf.size
 have hc0 := hf.bs.at_ 0 (by have := hf.lo; omega)
 rw [hf.first,Nat.zero_add] at hc0
 have hlo := hf.lo
 have hhi := hf.hi
 have hcap := hf.fit
 subst hy
 subst hn
 subst hc
 have d : decide ((5 : Int) < 5) = false := by simp
 have d2 : decide ((37 : Int) < (5 : Int)) = false := by simp
 clear hf hNb
 go_enter Tryz.func132,Tryz.ntmps132
 go_wp2_with (first
  | ((with_reducible refine pick (some 25) ?_); refine wpList_conv rfl 9 39 _ rfl (.string key) (.slice (some ⟨w.heap.size,0,none⟩) 5 5) rfl hrun ?_)
  | (go_at_call 157; (with_reducible refine HF.out.get.mono ?_); rintro e w2 ⟨rfl,rfl⟩))
 refine bodyPost_ret (results_tmp4 rfl _ _ _) rfl ?_
 exact ⟨rfl,HF.out.below⟩
theorem split_e5b (key : ByteArray) (w w1 : World) (n cap : Nat) (N y : Int) (hf : Fr key w w1 n cap N y) (hy : y = 69) (hn : n = 5) (hc : cap ≠ 5) : Calls Tryz.prog 132 #[.string key] w (SpE ⟨0,0,E0,0⟩ w) := by
 have hs : (n : Int) ≤ 9223372036854775807 := by have := hf.hi; omega
 have hNb : 0 ≤ N ∧ N ≤ 4294967295 := by rw [← hf.num]; exact getn_bd key
 have hN0 := hNb.1
 have hN1 := hNb.2
 have r1 : IntKind.u32.wrap N = N := by rw [IntKind.wrap_u32]; omega
 have hrun := hf.run
 have HF := hQ_ hf
 have hsz := hf.size
 have hc0 := hf.bs.at_ 0 (by have := hf.lo; omega)
 rw [hf.first,Nat.zero_add] at hc0
 have hlo := hf.lo
 have hhi := hf.hi
 have hcap := hf.fit
 subst hy
 subst hn
 have d : decide ((5 : Int) < 5) = false := by simp
 have d2 : decide ((37 : Int) < (5 : Int)) = false := by simp
 clear hf hNb
 go_enter Tryz.func132,Tryz.ntmps132
 go_wp2_with (first
  | ((with_reducible refine pick (some 25) ?_); refine wpList_conv rfl 9 39 _ rfl (.string key) (.slice (some ⟨w.heap.size,0,none⟩) 5 cap) rfl hrun ?_)
  | (go_at_call 157; (with_reducible refine HF.out.get.mono ?_); rintro e w2 ⟨rfl,rfl⟩))
 refine bodyPost_ret (results_tmp4 rfl _ _ _) rfl ?_
 exact ⟨rfl,HF.out.below⟩
theorem split_e6 (key : ByteArray) (w w1 : World) (n cap : Nat) (N y : Int) (hf : Fr key w w1 n cap N y) (hy : y = 69) (hn : 5 < n) : Calls Tryz.prog 132 #[.string key] w (SpE ⟨69,N,key.extract 5 n,0⟩ w) := by
 have hs : (n : Int) ≤ 9223372036854775807 := by have := hf.hi; omega
 have hNb : 0 ≤ N ∧ N ≤ 4294967295 := by rw [← hf.num]; exact getn_bd key
 have hN0 := hNb.1
 have hN1 := hNb.2
 have r1 : IntKind.u32.wrap N = N := by rw [IntKind.wrap_u32]; omega
 have hrun := hf.run
 have HF := hQ_ hf
 have hsz := hf.size
 have hc0 := hf.bs.at_ 0 (by have := hf.lo; omega)
 rw [hf.first,Nat.zero_add] at hc0
 have hlo := hf.lo
 have hhi := hf.hi
 have hcap := hf.fit
 subst hy
 have hc5 : ¬ cap = 5 := by omega
 have z0 : (((n - 5 : Nat) : Int) == 0) = false := by rw [beq_eq_false_iff_ne]; omega
 have z1 : decide (0 < n - 5) = true := by simp; omega
 have hb := (hf.bs.sub 5 (n - 5) (by omega)).below ((Below.refl _ _).drew)
 have hcv := hb.str_ (P := Tryz.prog) (c := cap - 5) 39 9 Tryz.underlying39 Tryz.underlying5 Tryz.underlying9
 rw [rest_txt hf.size,Nat.zero_add] at hcv
 have HBD := hQ_ (hf.below.drew)
 clear hb
 have d : decide ((n : Int) < 5) = false := by simp; omega
 have d2 : decide ((37 : Int) < (n : Int)) = false := by simp; omega
 clear hf hNb
 go_enter Tryz.func132,Tryz.ntmps132
 go_wp2_with (first
  | ((with_reducible refine pick (some 25) ?_); refine wpList_conv rfl 9 39 _ rfl (.string key) (.slice (some ⟨w.heap.size,0,none⟩) n cap) rfl hrun ?_)
  | (go_at_call 157; (with_reducible refine HF.out.get.mono ?_); rintro e w2 ⟨rfl,rfl⟩))
 refine lit_drew (by kernel_rfl) (by kernel_rfl) ?_
 refine still_val (.int .u8 69) (by kernel_rfl) (by kernel_rfl) ?_
 refine still_val (.int .u32 N) (by kernel_rfl) (by kernel_rfl) ?_
 refine still_val (.slice (some ⟨w.heap.size,5,none⟩) (n - 5) (cap - 5)) (by kernel_rfl) (by kernel_rfl) ?_
 refine still_val (.string (key.extract 5 n)) (by kernel_rfl) (still_conv (u := .slice (some ⟨w.heap.size,5,none⟩) (n - 5) (cap - 5)) rfl (by kernel_rfl) hcv) ?_
 refine still_val (.int .u8 69) (by kernel_rfl) (by kernel_rfl) ?_
 refine still_val (.int .u32 N) (by kernel_rfl) (by kernel_rfl) ?_
 refine still_val (.string (key.extract 5 n)) (by kernel_rfl) (by kernel_rfl) ?_
 refine still_val (.int .i64 0) (by kernel_rfl) (by kernel_rfl) ?_
 refine still_end ?_
 simp only [pZ_]
 go_wp2_with fail
 refine bodyPost_ret (results_tmp4 rfl _ _ _) rfl ?_
 exact ⟨rfl,HBD.out⟩
theorem split_d5a (key : ByteArray) (w w1 : World) (n cap : Nat) (N y : Int) (hf : Fr key w w1 n cap N y) (hy : y = 68) (hn : n = 5) (hc : cap = 5) : Calls Tryz.prog 132 #[.string key] w (SpE ⟨0,0,E0,0⟩ w) := by
 have hs : (n : Int) ≤ 9223372036854775807 := by have := hf.hi; omega
 have hNb : 0 ≤ N ∧ N ≤ 4294967295 := by rw [← hf.num]; exact getn_bd key
 have hN0 := hNb.1
 have hN1 := hNb.2
 have r1 : IntKind.u32.wrap N = N := by rw [IntKind.wrap_u32]; omega
 have hrun := hf.run
 have HF := hQ_ hf
 have hsz := hf.size
 have hc0 := hf.bs.at_ 0 (by have := hf.lo; omega)
 rw [hf.first,Nat.zero_add] at hc0
 have hlo := hf.lo
 have hhi := hf.hi
 have hcap := hf.fit
 subst hy
 subst hn
 subst hc
 have d : decide ((5 : Int) < 5) = false := by simp
 have d2 : decide ((37 : Int) < (5 : Int)) = false := by simp
 clear hf hNb
 go_enter Tryz.func132,Tryz.ntmps132
 go_wp2_with (first
  | ((with_reducible refine pick (some 25) ?_); refine wpList_conv rfl 9 39 _ rfl (.string key) (.slice (some ⟨w.heap.size,0,none⟩) 5 5) rfl hrun ?_)
  | (go_at_call 157; (with_reducible refine HF.out.get.mono ?_); rintro e w2 ⟨rfl,rfl⟩))
 refine bodyPost_ret (results_tmp4 rfl _ _ _) rfl ?_
 exact ⟨rfl,HF.out.below⟩
theorem split_d5b (key : ByteArray) (w w1 : World) (n cap : Nat) (N y : Int) (hf : Fr key w w1 n cap N y) (hy : y = 68) (hn : n = 5) (hc : cap ≠ 5) : Calls Tryz.prog 132 #[.string key] w (SpE ⟨0,0,E0,0⟩ w) := by
 have hs : (n : Int) ≤ 9223372036854775807 := by have := hf.hi; omega
 have hNb : 0 ≤ N ∧ N ≤ 4294967295 := by rw [← hf.num]; exact getn_bd key
 have hN0 := hNb.1
 have hN1 := hNb.2
 have r1 : IntKind.u32.wrap N = N := by rw [IntKind.wrap_u32]; omega
 have hrun := hf.run
 have HF := hQ_ hf
 have hsz := hf.size
 have hc0 := hf.bs.at_ 0 (by have := hf.lo; omega)
 rw [hf.first,Nat.zero_add] at hc0
 have hlo := hf.lo
 have hhi := hf.hi
 have hcap := hf.fit
 subst hy
 subst hn
 have d : decide ((5 : Int) < 5) = false := by simp
 have d2 : decide ((37 : Int) < (5 : Int)) = false := by simp
 clear hf hNb
 go_enter Tryz.func132,Tryz.ntmps132
 go_wp2_with (first
  | ((with_reducible refine pick (some 25) ?_); refine wpList_conv rfl 9 39 _ rfl (.string key) (.slice (some ⟨w.heap.size,0,none⟩) 5 cap) rfl hrun ?_)
  | (go_at_call 157; (with_reducible refine HF.out.get.mono ?_); rintro e w2 ⟨rfl,rfl⟩))
 refine bodyPost_ret (results_tmp4 rfl _ _ _) rfl ?_
 exact ⟨rfl,HF.out.below⟩
theorem split_d6 (key : ByteArray) (w w1 : World) (n cap : Nat) (N y : Int) (hf : Fr key w w1 n cap N y) (hy : y = 68) (hn : 5 < n) (h7 : n ≠ 7) : Calls Tryz.prog 132 #[.string key] w (SpE ⟨0,0,E0,0⟩ w) := by
 have hs : (n : Int) ≤ 9223372036854775807 := by have := hf.hi; omega
 have hNb : 0 ≤ N ∧ N ≤ 4294967295 := by rw [← hf.num]; exact getn_bd key
 have hN0 := hNb.1
 have hN1 := hNb.2
 have r1 : IntKind.u32.wrap N = N := by rw [IntKind.wrap_u32]; omega
 have hrun := hf.run
 have HF := hQ_ hf
 have hsz := hf.size
 have hc0 := hf.bs.at_ 0 (by have := hf.lo; omega)
 rw [hf.first,Nat.zero_add] at hc0
 have hlo := hf.lo
 have hhi := hf.hi
 have hcap := hf.fit
 subst hy
 have hc5 : ¬ cap = 5 := by omega
 have z0 : (((n - 5 : Nat) : Int) == 0) = false := by rw [beq_eq_false_iff_ne]; omega
 have z1 : decide (0 < n - 5) = true := by simp; omega
 have z2 : (((n - 5 : Nat) : Int) == 2) = false := by rw [beq_eq_false_iff_ne]; omega
 have d : decide ((n : Int) < 5) = false := by simp; omega
 have d2 : decide ((37 : Int) < (n : Int)) = false := by simp; omega
 clear hf hNb
 go_enter Tryz.func132,Tryz.ntmps132
 go_wp2_with (first
  | ((with_reducible refine pick (some 25) ?_); refine wpList_conv rfl 9 39 _ rfl (.string key) (.slice (some ⟨w.heap.size,0,none⟩) n cap) rfl hrun ?_)
  | (go_at_call 157; (with_reducible refine HF.out.get.mono ?_); rintro e w2 ⟨rfl,rfl⟩))
 refine bodyPost_ret (results_tmp4 rfl _ _ _) rfl ?_
 exact ⟨rfl,HF.out.below⟩
theorem split_d7 (key : ByteArray) (w w1 : World) (n cap : Nat) (N y : Int) (hf : Fr key w w1 n cap N y) (hy : y = 68) (h7 : n = 7) : Calls Tryz.prog 132 #[.string key] w (SpE ⟨68,N,E0,256 * (txt key).getD 5 0 + (txt key).getD 6 0⟩ w) := by
 have hs : (n : Int) ≤ 9223372036854775807 := by have := hf.hi; omega
 have hNb : 0 ≤ N ∧ N ≤ 4294967295 := by rw [← hf.num]; exact getn_bd key
 have hN0 := hNb.1
 have hN1 := hNb.2
 have r1 : IntKind.u32.wrap N = N := by rw [IntKind.wrap_u32]; omega
 have hrun := hf.run
 have HF := hQ_ hf
 have hsz := hf.size
 have hc0 := hf.bs.at_ 0 (by have := hf.lo; omega)
 rw [hf.first,Nat.zero_add] at hc0
 have hlo := hf.lo
 have hhi := hf.hi
 have hcap := hf.fit
 subst hy
 subst h7
 have hc5 : ¬ cap = 5 := by omega
 have hb := hf.bs.sub 5 2 (by omega)
 have hl2 : ((txt key).drop 5).length = 2 := by rw [List.length_drop,txt_len]; omega
 rw [List.take_of_length_le (by omega),Nat.zero_add] at hb
 have hgo := g_ok ((txt key).drop 5) 0 2 (by omega) (by rw [show width 2 = 2 from rfl]; omega)
 have hget := get_calls (some ⟨w.heap.size,5,none⟩) 2 (cap - 5) ((txt key).drop 5) 0 2 w1 hb (by omega) (by omega) (by omega) (by omega) (by omega)
 rw [hgo.1,hgo.2.1,hgo.2.2] at hget
 have e2 : getn ((txt key).drop 5) (Int.toNat 0) (width 2) = 256 * (txt key).getD 5 0 + (txt key).getD 6 0 := two_bytes hf.size
 have hbb : 0 ≤ 256 * (txt key).getD 5 0 + (txt key).getD 6 0 ∧ 256 * (txt key).getD 5 0 + (txt key).getD 6 0 ≤ 65535 := by
  have a := hf.bs.bd 5
  have b := hf.bs.bd 6
  omega
 rw [e2] at hget
 have HG2 := hQ_ hget
 generalize 256 * (txt key).getD 5 0 + (txt key).getD 6 0 = M at HG2 hbb ⊢
 have hb0 := hbb.1
 have hb1 := hbb.2
 have r2 : IntKind.i64.wrap M = M := by rw [IntKind.wrap_i64]; omega
 clear hb hl2 hgo hget e2 hbb
 have d : decide ((7 : Int) < 5) = false := by simp
 have d2 : decide ((37 : Int) < (7 : Int)) = false := by simp
 clear hf hNb
 go_enter Tryz.func132,Tryz.ntmps132
 go_wp2_with (first
  | ((with_reducible refine pick (some 25) ?_); refine wpList_conv rfl 9 39 _ rfl (.string key) (.slice (some ⟨w.heap.size,0,none⟩) 7 cap) rfl hrun ?_)
  | (go_at_call 157; (with_reducible refine HF.out.get.mono ?_); rintro e w2 ⟨rfl,rfl⟩)
  | (go_at_call 157; (with_reducible refine HG2.out.mono ?_); rintro e w2 ⟨rfl,rfl⟩))
 refine bodyPost_ret (results_tmp4 rfl _ _ _) rfl ?_
 exact ⟨rfl,HF.out.below⟩
theorem split_o5a (key : ByteArray) (w w1 : World) (n cap : Nat) (N y : Int) (hf : Fr key w w1 n cap N y) (hy : y ≠ 73 ∧ y ≠ 69 ∧ y ≠ 68) (hn : n = 5) (hc : cap = 5) : Calls Tryz.prog 132 #[.string key] w (SpE ⟨0,0,E0,0⟩ w) := by
 have hs : (n : Int) ≤ 9223372036854775807 := by have := hf.hi; omega
 have hNb : 0 ≤ N ∧ N ≤ 4294967295 := by rw [← hf.num]; exact getn_bd key
 have hN0 := hNb.1
 have hN1 := hNb.2
 have r1 : IntKind.u32.wrap N = N := by rw [IntKind.wrap_u32]; omega
 have hrun := hf.run
 have HF := hQ_ hf
 have hsz := hf.size
 have hc0 := hf.bs.at_ 0 (by have := hf.lo; omega)
 rw [hf.first,Nat.zero_add] at hc0
 have hlo := hf.lo
 have hhi := hf.hi
 have hcap := hf.fit
 have t1 : (y == 73) = false := by rw [beq_eq_false_iff_ne]; omega
 have t2 : (y == 69) = false := by rw [beq_eq_false_iff_ne]; omega
 have t3 : (y == 68) = false := by rw [beq_eq_false_iff_ne]; omega
 subst hn
 subst hc
 have d : decide ((5 : Int) < 5) = false := by simp
 have d2 : decide ((37 : Int) < (5 : Int)) = false := by simp
 clear hf hNb
 go_enter Tryz.func132,Tryz.ntmps132
 go_wp2_with (first
  | ((with_reducible refine pick (some 25) ?_); refine wpList_conv rfl 9 39 _ rfl (.string key) (.slice (some ⟨w.heap.size,0,none⟩) 5 5) rfl hrun ?_)
  | (go_at_call 157; (with_reducible refine HF.out.get.mono ?_); rintro e w2 ⟨rfl,rfl⟩))
 refine bodyPost_ret (results_tmp4 rfl _ _ _) rfl ?_
 exact ⟨rfl,HF.out.below⟩
theorem split_o5b (key : ByteArray) (w w1 : World) (n cap : Nat) (N y : Int) (hf : Fr key w w1 n cap N y) (hy : y ≠ 73 ∧ y ≠ 69 ∧ y ≠ 68) (hn : n = 5) (hc : cap ≠ 5) : Calls Tryz.prog 132 #[.string key] w (SpE ⟨0,0,E0,0⟩ w) := by
 have hs : (n : Int) ≤ 9223372036854775807 := by have := hf.hi; omega
 have hNb : 0 ≤ N ∧ N ≤ 4294967295 := by rw [← hf.num]; exact getn_bd key
 have hN0 := hNb.1
 have hN1 := hNb.2
 have r1 : IntKind.u32.wrap N = N := by rw [IntKind.wrap_u32]; omega
 have hrun := hf.run
 have HF := hQ_ hf
 have hsz := hf.size
 have hc0 := hf.bs.at_ 0 (by have := hf.lo; omega)
 rw [hf.first,Nat.zero_add] at hc0
 have hlo := hf.lo
 have hhi := hf.hi
 have hcap := hf.fit
 have t1 : (y == 73) = false := by rw [beq_eq_false_iff_ne]; omega
 have t2 : (y == 69) = false := by rw [beq_eq_false_iff_ne]; omega
 have t3 : (y == 68) = false := by rw [beq_eq_false_iff_ne]; omega
 subst hn
 have d : decide ((5 : Int) < 5) = false := by simp
 have d2 : decide ((37 : Int) < (5 : Int)) = false := by simp
 clear hf hNb
 go_enter Tryz.func132,Tryz.ntmps132
 go_wp2_with (first
  | ((with_reducible refine pick (some 25) ?_); refine wpList_conv rfl 9 39 _ rfl (.string key) (.slice (some ⟨w.heap.size,0,none⟩) 5 cap) rfl hrun ?_)
  | (go_at_call 157; (with_reducible refine HF.out.get.mono ?_); rintro e w2 ⟨rfl,rfl⟩))
 refine bodyPost_ret (results_tmp4 rfl _ _ _) rfl ?_
 exact ⟨rfl,HF.out.below⟩
theorem split_o6 (key : ByteArray) (w w1 : World) (n cap : Nat) (N y : Int) (hf : Fr key w w1 n cap N y) (hy : y ≠ 73 ∧ y ≠ 69 ∧ y ≠ 68) (hn : 5 < n) : Calls Tryz.prog 132 #[.string key] w (SpE ⟨0,0,E0,0⟩ w) := by
 have hs : (n : Int) ≤ 9223372036854775807 := by have := hf.hi; omega
 have hNb : 0 ≤ N ∧ N ≤ 4294967295 := by rw [← hf.num]; exact getn_bd key
 have hN0 := hNb.1
 have hN1 := hNb.2
 have r1 : IntKind.u32.wrap N = N := by rw [IntKind.wrap_u32]; omega
 have hrun := hf.run
 have HF := hQ_ hf
 have hsz := hf.size
 have hc0 := hf.bs.at_ 0 (by have := hf.lo; omega)
 rw [hf.first,Nat.zero_add] at hc0
 have hlo := hf.lo
 have hhi := hf.hi
 have hcap := hf.fit
 have t1 : (y == 73) = false := by rw [beq_eq_false_iff_ne]; omega
 have t2 : (y == 69) = false := by rw [beq_eq_false_iff_ne]; omega
 have t3 : (y == 68) = false := by rw [beq_eq_false_iff_ne]; omega
 have hc5 : ¬ cap = 5 := by omega
 have z0 : (((n - 5 : Nat) : Int) == 0) = false := by rw [beq_eq_false_iff_ne]; omega
 have z1 : decide (0 < n - 5) = true := by simp; omega
 have d : decide ((n : Int) < 5) = false := by simp; omega
 have d2 : decide ((37 : Int) < (n : Int)) = false := by simp; omega
 clear hf hNb
 go_enter Tryz.func132,Tryz.ntmps132
 go_wp2_with (first
  | ((with_reducible refine pick (some 25) ?_); refine wpList_conv rfl 9 39 _ rfl (.string key) (.slice (some ⟨w.heap.size,0,none⟩) n cap) rfl hrun ?_)
  | (go_at_call 157; (with_reducible refine HF.out.get.mono ?_); rintro e w2 ⟨rfl,rfl⟩))
 refine bodyPost_ret (results_tmp4 rfl _ _ _) rfl ?_
 exact ⟨rfl,HF.out.below⟩
theorem split_calls : SplitOk := by
 intro key w hk
 by_cases hr : key.size < 5 ∨ 37 < key.size
 ·exact split_out key w hr hk
 obtain ⟨n,hn⟩ : ∃ n,key.size = n := ⟨_,rfl⟩
 obtain ⟨w1,cap,hf⟩ := fr_of key w n hn (by omega) (by omega)
 have hlo := hf.lo
 have hhi := hf.hi
 have hcap := hf.fit
 have hfirst := hf.first
 have hsz := hf.size
 by_cases h3 : (txt key).getD 0 0 = 73
 ·by_cases h5 : n = 5
  ·rw [sp_73 h3 (by omega)]
   by_cases hc : cap = 5
   ·exact split_i5a key w w1 n cap _ _ hf h3 h5 hc
   ·exact split_i5b key w w1 n cap _ _ hf h3 h5 hc
  ·rw [sp_none (by omega) (by omega) (by omega)]
   exact split_i6 key w w1 n cap _ _ hf h3 (by omega)
 by_cases h9 : (txt key).getD 0 0 = 69
 ·by_cases h5 : n = 5
  ·rw [sp_none (by omega) (by omega) (by omega)]
   by_cases hc : cap = 5
   ·exact split_e5a key w w1 n cap _ _ hf h9 h5 hc
   ·exact split_e5b key w w1 n cap _ _ hf h9 h5 hc
  ·rw [sp_69 h9 (by omega) (by omega),hn]
   exact split_e6 key w w1 n cap _ _ hf h9 (by omega)
 by_cases h8 : (txt key).getD 0 0 = 68
 ·by_cases h5 : n = 5
  ·rw [sp_none (by omega) (by omega) (by omega)]
   by_cases hc : cap = 5
   ·exact split_d5a key w w1 n cap _ _ hf h8 h5 hc
   ·exact split_d5b key w w1 n cap _ _ hf h8 h5 hc
  ·by_cases h7 : n = 7
   ·rw [sp_68 h8 (by omega)]
    exact split_d7 key w w1 n cap _ _ hf h8 h7
   ·rw [sp_none (by omega) (by omega) (by omega)]
    exact split_d6 key w w1 n cap _ _ hf h8 (by omega) h7
 rw [sp_none (by omega) (by omega) (by omega)]
 by_cases h5 : n = 5
 ·by_cases hc : cap = 5
  ·exact split_o5a key w w1 n cap _ _ hf ⟨h3,h9,h8⟩ h5 hc
  ·exact split_o5b key w w1 n cap _ _ hf ⟨h3,h9,h8⟩ h5 hc
 ·exact split_o6 key w w1 n cap _ _ hf ⟨h3,h9,h8⟩ (by omega)
end Go.Proofs.YtobbofdnhbgioaaGreatDoor.KeysD
namespace Go.Proofs.YtobbofdnhbgioaaGreatDoor.WalkKa
open Go.RowKit
open Byte PackM PackV PackG KeysM KeysR KeysS KeysL KeysC TreeM TreeR ViewM NodeM NodeG NodeK WalkM WalkF WalkKm Lst Chg TreeL ViewL WalkL WalkV Vat
open Own hiding keeps
variable {Rep : RepT}
def Small (Rep : RepT) : Prop := ∀ ⦃w v s S D⦄,Rep w v s S D → VsB s
def LoadV (L : List Pr) (ino : Int) : Value := .tuple #[.agg #[.int .u8 (loadM L ino).1.k,.int .u32 (loadM L ino).1.l,.int .u32 (loadM L ino).1.s,.int .u32 (loadM L ino).1.p],.bool (loadM L ino).2]
theorem ki_size (ino : Int) : (kI ino).size ≤ 100000 := by unfold kI; rw [ks_size]; omega
theorem ke_size (dir : Int) (name : ByteArray) : (kE dir name).size ≤ 100000 := by
 unfold kE
 split
 ·decide
 ·rw [ByteArray.size_append,ks_size]; omega
theorem loadv_none {L : List Pr} {ino : Int} (h : getL (kI ino) L = none) (h1 : ino ≠ 1) : LoadV L ino = .tuple #[.agg #[.int .u8 0,.int .u32 0,.int .u32 0,.int .u32 0],.bool false] := by
 unfold LoadV
 rw [load_none h,if_neg h1]
 rfl
theorem loadv_root {L : List Pr} (h : getL (kI 1) L = none) : LoadV L 1 = .tuple #[.agg #[.int .u8 2,.int .u32 2,.int .u32 0,.int .u32 1],.bool true] := by
 unfold LoadV
 rw [load_none h,if_pos rfl]
theorem loadv_some {L : List Pr} {ino : Int} {q : Pr} (h : getL (kI ino) L = some q) : LoadV L ino = GetV q.value := by
 unfold LoadV GetV
 rw [load_some h]
 cases gok q.value <;> rfl
theorem getv_parts (t : ByteArray) : ∃ (k l z p : Int) (b : Bool),GetV t = .tuple #[.agg #[.int .u8 k,.int .u32 l,.int .u32 z,.int .u32 p],.bool b] := by
 unfold GetV
 split
 ·exact ⟨_,_,_,_,_,rfl⟩
 ·exact ⟨_,_,_,_,_,rfl⟩
theorem load_calls (hS : Stays Rep) (hG : GetOk Rep) (hB : Small Rep) {w : World} {v : Value} {s : Vs} {S D : Nat → Prop} (ino : Int) (hr : Rep w v s S D) (hl : Lim s) (h0 : 0 ≤ ino) (h1 : ino ≤ 4294967295) :
 Calls Tryz.prog 127 #[v,.int .u32 ino] w (WalkL.Stepped Rep v (s.read (kI ino)) (LoadV s.shown ino) S D w) := by
 have R0 := hQ_ (Blk.new_ w #[.int .u8 0,.int .u32 0,.int .u32 0,.int .u32 0] 46)
 have hb0 := bX_ R0.out
 have A0 := hQ_ ((At.start hr).own hS hb0 (Nat.le_refl _) (by simp))
 have HI := hQ_ (fun w => inode_calls ino w h0 h1)
 have hok := hS.ok hr
 have hbs := hB hr
 have HS := hQ_ hS
 have HL := hQ_ hl
 have HKS : Hid ((kI ino).size ≤ 200000000000000) := hQ_ (by have := ki_size ino; omega)
 have HGet := hQ_ hG
 obtain ⟨K,hK⟩ : ∃ K,kI ino = K := ⟨_,rfl⟩
 rw [hK] at HI HKS ⊢
 clear hb0 hr hl hS hG hB
 cases hg : getL K s.shown with
 | none =>
   rw [← hK] at hg
   by_cases hi : ino = 1
   ·subst hi
    have HE := hQ_ (loadv_root hg)
    rw [hK] at hg
    have HG := hQ_ hg
    clear hok hbs hg hK
    go_enter Tryz.func127,Tryz.ntmps127
    go_wp2_with fail
    refine (HI.out _).mono ?_
    rintro e w1 ⟨rfl,hb1⟩
    have A1 := hQ_ (A0.out.below HS.out hb1)
    have R1 := hQ_ (R0.out.below hb1)
    clear hb1
    go_wp2_with fail
    refine (HGet.out K A1.out.rep HL.out HKS.out).mono ?_
    rw [HG.out]
    rintro e w2 ⟨S2,D2,rfl,hr2,st2⟩
    have A2 := hQ_ (A1.out.step HS.out hr2 st2)
    have R2 := hQ_ (A1.out.blk HS.out R1.out (.inr rfl) st2)
    clear hr2 st2
    dsimp only [GotV]
    go_wp2_with fail
    refine (root_ok _).mono ?_
    rintro e w3 ⟨rfl,hb3⟩
    have A3 := hQ_ (A2.out.below HS.out hb3)
    have R3 := hQ_ (R2.out.below hb3)
    clear hb3
    go_wp2_with ((with_reducible refine pick none ?_); refine store_blk rfl 46 _ _ rfl w.heap.size #[.int .u8 2,.int .u32 2,.int .u32 0,.int .u32 1] rfl rfl 46 _ R3.out info_ino rfl (by simp [Value.oneCell']) ?_; intro w5 hk5 hg5)
    have A5 := A3.out.stored HS.out R3.out (.inr rfl) (by decide) hg5
    exact bodyPost_ret (v := .tuple #[.agg #[.int .u8 2,.int .u32 2,.int .u32 0,.int .u32 1],.bool true]) (results_row_tmp rfl _ _ w.heap.size 46 _ (0,0) _ rfl _ rfl hk5 Tryz.underlying46 rfl info_ino) rfl ⟨S2,D2,by rw [HE.out],A5.rep,A5.st⟩
   ·have HE := hQ_ (loadv_none hg hi)
    rw [hK] at hg
    have HG := hQ_ hg
    have d1 : (ino == 1) = false := by rw [beq_eq_false_iff_ne]; exact hi
    have HX := hQ_ (fun w => get_ok ⟨#[]⟩ w (by decide))
    unfold GetE at HX
    rw [getv_no (t := ⟨#[]⟩) (by decide)] at HX
    clear hok hbs hg hK hi
    go_enter Tryz.func127,Tryz.ntmps127
    go_wp2_with fail
    refine (HI.out _).mono ?_
    rintro e w1 ⟨rfl,hb1⟩
    have A1 := hQ_ (A0.out.below HS.out hb1)
    have R1 := hQ_ (R0.out.below hb1)
    clear hb1
    go_wp2_with fail
    refine (HGet.out K A1.out.rep HL.out HKS.out).mono ?_
    rw [HG.out]
    rintro e w2 ⟨S2,D2,rfl,hr2,st2⟩
    have A2 := hQ_ (A1.out.step HS.out hr2 st2)
    have R2 := hQ_ (A1.out.blk HS.out R1.out (.inr rfl) st2)
    clear hr2 st2
    dsimp only [GotV]
    go_wp2_with fail
    refine (HX.out _).mono ?_
    rintro e w3 ⟨rfl,hb3⟩
    have A3 := hQ_ (A2.out.below HS.out hb3)
    have R3 := hQ_ (R2.out.below hb3)
    clear hb3
    go_wp2_with ((with_reducible refine pick none ?_); refine store_blk rfl 46 _ _ rfl w.heap.size #[.int .u8 0,.int .u32 0,.int .u32 0,.int .u32 0] rfl rfl 46 _ R3.out info_ino rfl (by simp [Value.oneCell']) ?_; intro w5 hk5 hg5)
    have A5 := A3.out.stored HS.out R3.out (.inr rfl) (by decide) hg5
    exact bodyPost_ret (v := .tuple #[.agg #[.int .u8 0,.int .u32 0,.int .u32 0,.int .u32 0],.bool false]) (results_row_tmp rfl _ _ w.heap.size 46 _ (0,0) _ rfl _ rfl hk5 Tryz.underlying46 rfl info_ino) rfl ⟨S2,D2,by rw [HE.out],A5.rep,A5.st⟩
 | some q =>
   have hq := hbs.shown hok (get_in hg)
   rw [← hK] at hg
   have hE := loadv_some hg
   rw [hK] at hg
   have HG := hQ_ hg
   have HX := hQ_ (fun w => get_ok q.value w (by unfold maxLen; omega))
   unfold GetE at HX
   obtain ⟨xk,xl,xz,xp,xb,hv⟩ := getv_parts q.value
   rw [hv] at HX hE
   have HE := hQ_ hE
   obtain ⟨qk,qv,qg⟩ := q
   dsimp only at HX hq
   clear hok hbs hg hK hE hv
   go_enter Tryz.func127,Tryz.ntmps127
   go_wp2_with fail
   refine (HI.out _).mono ?_
   rintro e w1 ⟨rfl,hb1⟩
   have A1 := hQ_ (A0.out.below HS.out hb1)
   have R1 := hQ_ (R0.out.below hb1)
   clear hb1
   go_wp2_with fail
   refine (HGet.out K A1.out.rep HL.out HKS.out).mono ?_
   rw [HG.out]
   rintro e w2 ⟨S2,D2,rfl,hr2,st2⟩
   have A2 := hQ_ (A1.out.step HS.out hr2 st2)
   have R2 := hQ_ (A1.out.blk HS.out R1.out (.inr rfl) st2)
   clear hr2 st2
   dsimp only [GotV]
   go_wp2_with fail
   refine (HX.out _).mono ?_
   rintro e w3 ⟨rfl,hb3⟩
   have A3 := hQ_ (A2.out.below HS.out hb3)
   have R3 := hQ_ (R2.out.below hb3)
   clear hb3
   go_wp2_with ((with_reducible refine pick none ?_); refine store_blk rfl 46 _ _ rfl w.heap.size #[.int .u8 xk,.int .u32 xl,.int .u32 xz,.int .u32 xp] rfl rfl 46 _ R3.out info_ino rfl (by simp [Value.oneCell']) ?_; intro w5 hk5 hg5)
   have A5 := A3.out.stored HS.out R3.out (.inr rfl) (by decide) hg5
   exact bodyPost_ret (v := .tuple #[.agg #[.int .u8 xk,.int .u32 xl,.int .u32 xz,.int .u32 xp],.bool xb]) (results_row_tmp rfl _ _ w.heap.size 46 _ (0,0) _ rfl _ rfl hk5 Tryz.underlying46 rfl info_ino) rfl ⟨S2,D2,by rw [HE.out],A5.rep,A5.st⟩
theorem nput_size (k l z p : Int) : (nput k l z p).size ≤ 1000 := by
 unfold nput
 rw [str_size]
 simp [nb,low_len]
structure InvS (Rep : RepT) (w : World) (v : Value) (s : Vs) (S D : Nat → Prop) (k l z p : Int) (u : World) : Prop where
 at_ : At Rep w S D (fun b => False ∨ b = w.heap.size) u v s S D
 blk : Blk u w.heap.size #[.int .u8 k,.int .u32 l,.int .u32 z,.int .u32 p] 46
theorem invs_step {w u u' : World} {v : Value} {s : Vs} {S D : Nat → Prop} {k l z p : Int} (hS : Hid (Stays Rep)) (J : Hid (InvS Rep w v s S D k l z p u)) (hb : Below u.heap.size u u') : Hid (InvS Rep w v s S D k l z p u') := hQ_ ⟨J.out.1.below hS.out hb,J.out.2.below hb⟩
theorem invs_cells {w u : World} {v : Value} {s : Vs} {S D : Nat → Prop} {k l z p : Int} (J : Hid (InvS Rep w v s S D k l z p u)) : u.cell? ⟨w.heap.size,0,none⟩ = some (.int .u8 k) ∧ u.cell? ⟨w.heap.size,1,none⟩ = some (.int .u32 l) ∧ u.cell? ⟨w.heap.size,2,none⟩ = some (.int .u32 z) ∧ u.cell? ⟨w.heap.size,3,none⟩ = some (.int .u32 p) := ⟨J.out.2.cell 0,J.out.2.cell 1,J.out.2.cell 2,J.out.2.cell 3⟩
theorem save_ok (hS : Stays Rep) (hX : ViewL.SetOk Rep) : SaveOk Rep := by
 intro w v s S D ino k l z p hr hl h0 h1 hi
 have A0 := hQ_ (At.start hr)
 have HI := hQ_ (fun w => inode_calls ino w h0 h1)
 have HP := hQ_ (fun w => put_ok k l z p w hi.k0 hi.k1 hi.l0 hi.l1 hi.s0 hi.s1 hi.p0 hi.p1)
 have HKS : Hid ((kI ino).size ≤ 200000000000000) := hQ_ (by have := ki_size ino; omega)
 have HVS : Hid ((nput k l z p).size ≤ 200000000000000) := hQ_ (by have := nput_size k l z p; omega)
 generalize kI ino = K at *
 generalize nput k l z p = V at *
 have HB0 := (Below.refl w.heap.size w).alloc (Nat.le_refl _) (.cells #[.int .u8 k,.int .u32 l,.int .u32 z,.int .u32 p] 46)
 have A1 := A0.out.own hS HB0 (Nat.le_refl _) (by simp)
 have R1 := Blk.new_ w #[.int .u8 k,.int .u32 l,.int .u32 z,.int .u32 p] 46
 have J0 : Hid (InvS Rep w v s S D k l z p (w.alloc (.cells #[.int .u8 k,.int .u32 l,.int .u32 z,.int .u32 p] 46)).drew) := hQ_ ⟨A1.below hS ((Below.refl _ _).drew),R1.drew⟩
 obtain ⟨c0,c1,c2,c3⟩ := invs_cells J0
 have HS := hQ_ hS
 have HXJ : Hid (∀ u,Hid (InvS Rep w v s S D k l z p u) → Calls Tryz.prog 122 #[v,.string K,.string V] u fun e w' => ∃ S' D',e = .returned (.bool (!fullW s.wr ⟨K,V,false⟩)) ∧ Rep w' v (s.write ⟨K,V,false⟩) S' D' ∧ Stp S D S' D' w w') := hQ_ (fun u J => (hX K V J.out.1.rep hl HKS.out HVS.out).mono (by
  rintro e w' ⟨S',D',e1,h1,h2⟩
  exact ⟨S',D',e1,h1,(J.out.1.step HS.out h1 h2).st⟩))
 clear hr hl hS hX HB0 hi A1 R1
 go_enter Tryz.func101,Tryz.ntmps101
 go_wp2_with fail
 go_region_law (first
  | (go_simp; go_at_call 123; refine (HI.out _).mono ?_; rintro e w2 ⟨rfl,hb2⟩; have J2 := invs_step HS (by assumption) hb2; obtain ⟨d0,d1,d2,d3⟩ := invs_cells J2; clear hb2)
  | (go_simp; go_at_call 124; refine (HP.out _).mono ?_; rintro e w3 ⟨rfl,hb3⟩; have J3 := invs_step HS (by assumption) hb3; obtain ⟨e0,e1,e2,e3⟩ := invs_cells J3; clear hb3)
  | (go_simp; go_at_call 122; refine (HXJ.out _ (by assumption)).mono ?_; rintro e w4 ⟨S4,D4,rfl,hr4,st4⟩; have HR4 := hQ_ hr4; have HST4 := hQ_ st4; clear hr4 st4))
 all_goals
  go_wp2_with fail
  go_ret
  exact ⟨S4,D4,rfl,HR4.out,HST4.out⟩
theorem drop_ok (hS : Stays Rep) (hX : CutOk Rep) : DropOk Rep := by
 intro w v s S D ino hr hl h0 h1
 have A0 := hQ_ (At.start hr)
 have HI := hQ_ (fun w => inode_calls ino w h0 h1)
 have HKS : Hid ((kI ino).size ≤ 200000000000000) := hQ_ (by have := ki_size ino; omega)
 generalize kI ino = K at *
 have HS := hQ_ hS
 have HL := hQ_ hl
 have HX := hQ_ hX
 clear hr hl hS hX
 go_enter Tryz.func140,Tryz.ntmps140
 go_wp2_with fail
 refine (HI.out _).mono ?_
 rintro e w2 ⟨rfl,hb2⟩
 have A2 := hQ_ (A0.out.below HS.out hb2)
 clear hb2
 go_wp2_with fail
 refine (HX.out K A2.out.rep HL.out HKS.out).mono ?_
 rintro e w4 ⟨S4,D4,rfl,hr4,st4⟩
 have A4 := hQ_ (A2.out.step HS.out hr4 st4)
 clear hr4 st4
 go_wp2_with fail
 go_ret
 exact ⟨S4,D4,rfl,A4.out.rep,A4.out.st⟩
def ChildV (L : List Pr) (dir : Int) (name : ByteArray) : Value := .tuple #[.int .u32 (childM L dir name).1,.bool (childM L dir name).2]
theorem childv_none {L : List Pr} {dir : Int} {name : ByteArray} (h : getL (kE dir name) L = none) : ChildV L dir name = .tuple #[.int .u32 0,.bool false] := by
 unfold ChildV childM
 rw [h]
theorem childv_no {L : List Pr} {dir : Int} {name : ByteArray} {q : Pr} (h : getL (kE dir name) L = some q) (h4 : q.value.size ≠ 4) : ChildV L dir name = .tuple #[.int .u32 0,.bool false] := by
 unfold ChildV childM
 rw [h]
 dsimp only
 rw [if_neg h4]
theorem childv_yes {L : List Pr} {dir : Int} {name : ByteArray} {q : Pr} (h : getL (kE dir name) L = some q) (h4 : q.value.size = 4) : ChildV L dir name = .tuple #[.int .u32 (PackM.getn (txt q.value) 0 4),.bool true] := by
 unfold ChildV childM
 rw [h]
 dsimp only
 rw [if_pos h4]
theorem child_ok (hS : Stays Rep) (hG : GetOk Rep) (hB : Small Rep) : ChildOk Rep := by
 intro w v s S D dir name hr hl h0 h1 hn
 show Calls _ _ _ _ (WalkL.Stepped Rep v (s.read (kE dir name)) (ChildV s.shown dir name) S D w)
 have A0 := hQ_ (At.start hr)
 have HI := hQ_ (fun w => entry_calls dir name w h0 h1 hn)
 have HKS : Hid ((kE dir name).size ≤ 200000000000000) := hQ_ (by have := ke_size dir name; omega)
 have hok := hS.ok hr
 have hbs := hB hr
 have HS := hQ_ hS
 have HL := hQ_ hl
 have HGet := hQ_ hG
 have hns : (name.size : Int) ≤ 100000 := by omega
 obtain ⟨K,hK⟩ : ∃ K,kE dir name = K := ⟨_,rfl⟩
 rw [hK] at HI HKS ⊢
 clear hr hl hS hG hB
 rcases (show (∃ t : ByteArray,t.size ≠ 4 ∧ t.size ≤ 200000000000000 ∧ (∃ b,GotV (getL K s.shown) = .tuple #[.string t,.bool b]) ∧ ChildV s.shown dir name = .tuple #[.int .u32 0,.bool false]) ∨ (∃ t : ByteArray,t.size = 4 ∧ GotV (getL K s.shown) = .tuple #[.string t,.bool true] ∧ ChildV s.shown dir name = .tuple #[.int .u32 (PackM.getn (txt t) 0 4),.bool true]) by
  cases hg : getL K s.shown with
  | none =>
    rw [← hK] at hg
    exact .inl ⟨⟨#[]⟩,by decide,by decide,⟨false,rfl⟩,childv_none hg⟩
  | some q =>
    have hq := hbs.shown hok (get_in hg)
    rw [← hK] at hg
    by_cases h4 : q.value.size = 4
    ·exact .inr ⟨q.value,h4,rfl,childv_yes hg h4⟩
    ·exact .inl ⟨q.value,h4,hq,⟨true,rfl⟩,childv_no hg h4⟩) with ⟨t,ht,ht2,⟨b,hv⟩,he⟩ | ⟨t,ht,hv,he⟩
 ·have HV := hQ_ hv
  have HE := hQ_ he
  have d : ((t.size : Int) != 4) = true := by simp; omega
  have hts : (t.size : Int) ≤ 9223372036854775807 := by omega
  clear hv he hok hbs hK ht ht2
  go_enter Tryz.func146,Tryz.ntmps146
  go_wp2_with fail
  refine (HI.out _).mono ?_
  rintro e w1 ⟨rfl,hb1⟩
  have A1 := hQ_ (A0.out.below HS.out hb1)
  clear hb1
  go_wp2_with fail
  refine (HGet.out K A1.out.rep HL.out HKS.out).mono ?_
  rw [HV.out]
  rintro e w2 ⟨S2,D2,rfl,hr2,st2⟩
  have A2 := hQ_ (A1.out.step HS.out hr2 st2)
  clear hr2 st2
  go_wp2_with fail
  go_ret2
  exact ⟨S2,D2,by rw [HE.out]; rfl,A2.out.rep,A2.out.st⟩
 ·have HV := hQ_ hv
  have HE := hQ_ he
  have d : ((t.size : Int) != 4) = false := by simp; omega
  have hts : (t.size : Int) ≤ 9223372036854775807 := by omega
  have hbd := get_bd (txt t) 0 4 (txt_bd t)
  have e256 : (256 : Int) ^ 4 = 4294967296 := by decide
  rw [e256] at hbd
  have hgx : gx (txt t) 0 4 = PackM.getn (txt t) 0 4 := by
   have hl := txt_len t
   have hg := g_ok (txt t) 0 4 (by omega) (by rw [show width 4 = 4 from rfl]; omega)
   rw [hg.1]
   rfl
  have HG : Hid (∀ (A : Option Addr) (c : Nat) (w : World),Bs w A 4 (txt t) → Calls Tryz.prog 157 #[.slice A (4 : Nat) c,.int .i64 0,.int .i64 4] w fun e w' => e = .returned (.tuple #[.int .u64 (PackM.getn (txt t) 0 4),.int .i64 (gi (txt t) 0 4),.int .i64 (ge (txt t) 0 4)]) ∧ w = w') := hQ_ (fun A c w hb => by
   have := get_calls A 4 c (txt t) 0 4 w hb (by omega) (by omega) (by omega) (by omega) (by omega)
   rw [hgx] at this
   exact this)
  generalize PackM.getn (txt t) 0 4 = X at *
  generalize gi (txt t) 0 4 = X2 at *
  generalize ge (txt t) 0 4 = X3 at *
  clear hv he hok hbs hK hgx e256
  go_enter Tryz.func146,Tryz.ntmps146
  go_wp2_with fail
  refine (HI.out _).mono ?_
  rintro e w1 ⟨rfl,hb1⟩
  have A1 := hQ_ (A0.out.below HS.out hb1)
  clear hb1
  go_wp2_with fail
  refine (HGet.out K A1.out.rep HL.out HKS.out).mono ?_
  rw [HV.out]
  rintro e w2 ⟨S2,D2,rfl,hr2,st2⟩
  have A2 := hQ_ (A1.out.step HS.out hr2 st2)
  clear hr2 st2
  obtain ⟨cap,w3,hrun,hf,hb3⟩ := conv_key w2 t
  rw [ht] at hrun hf
  have HF := hQ_ hf
  have A3 := hQ_ (A2.out.below HS.out hb3)
  clear hf hb3 ht
  go_wp2_with ((with_reducible refine pick (some 26) ?_); refine wpList_conv rfl 9 39 _ rfl (.string t) (.slice (some ⟨w2.heap.size,0,none⟩) 4 cap) rfl hrun ?_)
  refine (HG.out _ _ _ HF.out.bs).mono ?_
  rintro e w4 ⟨rfl,rfl⟩
  go_wp2_with fail
  go_ret2
  exact ⟨S2,D2,by rw [HE.out]; rfl,A3.out.rep,A3.out.st⟩
theorem hang_ok (hS : Stays Rep) (hX : ViewL.SetOk Rep) : HangOk Rep := by
 intro w v s S D dir name ino hr hl h0 h1 i0 i1 hn
 have A0 := hQ_ (At.start hr)
 have HI := hQ_ (fun w => entry_calls dir name w h0 h1 hn)
 have HKS : Hid ((kE dir name).size ≤ 200000000000000) := hQ_ (by have := ke_size dir name; omega)
 have HVS : Hid ((hangV ino).size ≤ 200000000000000) := hQ_ (by rw [hangV_size]; omega)
 have HP := hQ_ (fun w => put_calls none 0 0 [] 4 ino w (Bs.nil_ _ _) (by omega) (by omega) (by omega))
 rw [List.nil_append,show width 4 = 4 from rfl] at HP
 have HLN : Hid ((low 4 ino).length = 4) := hQ_ (low_len 4 ino)
 have HSTR : Hid (str (low 4 ino) = hangV ino) := hQ_ rfl
 have hns : (name.size : Int) ≤ 100000 := by omega
 generalize kE dir name = K at *
 generalize hangV ino = V at *
 generalize low 4 ino = Z at *
 have HS := hQ_ hS
 have HL := hQ_ hl
 have HX := hQ_ hX
 clear hr hl hS hX
 go_enter Tryz.func102,Tryz.ntmps102
 go_wp2_with fail
 refine (HI.out _).mono ?_
 rintro e w1 ⟨rfl,hb1⟩
 have A1 := hQ_ (A0.out.below HS.out hb1)
 clear hb1
 go_wp2_with fail
 refine (HP.out _).mono ?_
 intro e w2 hm
 obtain ⟨g,cap,rfl,ho,hb2⟩ := hm.at_ HLN.out
 have hst := ho.str_ (P := Tryz.prog) 39 9 Tryz.underlying39 Tryz.underlying5 Tryz.underlying9
 rw [HSTR.out] at hst
 have A2 := hQ_ (A1.out.below HS.out hb2)
 clear hm ho hb2
 go_wp2_with fail
 refine (HX.out K V A2.out.rep HL.out HKS.out HVS.out).mono ?_
 rintro e w4 ⟨S4,D4,rfl,hr4,st4⟩
 have A4 := hQ_ (A2.out.step HS.out hr4 st4)
 clear hr4 st4
 go_wp2_with fail
 go_ret
 exact ⟨S4,D4,rfl,A4.out.rep,A4.out.st⟩
theorem unhang_ok (hS : Stays Rep) (hX : CutOk Rep) : UnhangOk Rep := by
 intro w v s S D dir name hr hl h0 h1 hn
 have A0 := hQ_ (At.start hr)
 have HI := hQ_ (fun w => entry_calls dir name w h0 h1 hn)
 have HKS : Hid ((kE dir name).size ≤ 200000000000000) := hQ_ (by have := ke_size dir name; omega)
 have hns : (name.size : Int) ≤ 100000 := by omega
 generalize kE dir name = K at *
 have HS := hQ_ hS
 have HL := hQ_ hl
 have HX := hQ_ hX
 clear hr hl hS hX
 go_enter Tryz.func137,Tryz.ntmps137
 go_wp2_with fail
 refine (HI.out _).mono ?_
 rintro e w2 ⟨rfl,hb2⟩
 have A2 := hQ_ (A0.out.below HS.out hb2)
 clear hb2
 go_wp2_with fail
 refine (HX.out K A2.out.rep HL.out HKS.out).mono ?_
 rintro e w4 ⟨S4,D4,rfl,hr4,st4⟩
 have A4 := hQ_ (A2.out.step HS.out hr4 st4)
 clear hr4 st4
 go_wp2_with fail
 go_ret
 exact ⟨S4,D4,rfl,A4.out.rep,A4.out.st⟩
end Go.Proofs.YtobbofdnhbgioaaGreatDoor.WalkKa