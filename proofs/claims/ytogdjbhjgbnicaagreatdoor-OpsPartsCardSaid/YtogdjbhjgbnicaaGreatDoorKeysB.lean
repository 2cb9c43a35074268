import Derived.Test.YtogdjbhjgbnicaaGreatDoorSq
import Derived.Test.YtogdjbhjgbnicaaGreatDoorKeysC
import Derived.LoopTactic
import Derived.RegionTactic
import Derived.ChangeAlike
set_option maxHeartbeats 16000000
set_option linter.unusedVariables false
set_option linter.unusedSimpArgs false
set_option maxRecDepth 100000
namespace Go.Proofs.YtogdjbhjgbnicaaGreatDoor.KeysB
open Go.RowKit
open Byte PackM PackV KeysM KeysR KeysS KeysL KeysV KeysC
theorem Bs.front {w : World} {g n : Nat} {xs : List Int} (h : Bs w (some ⟨g,0,none⟩) n xs) (k : Nat) (hk : k ≤ n) : Bs w (some ⟨g,0,none⟩) k (xs.take k) := by
 have := h.sub 0 k (by omega)
 simpa using this
theorem conv_front {w : World} {g n cap : Nat} {xs : List Int} (h : Bs w (some ⟨g,0,none⟩) n xs) (k : Nat) (hk : k ≤ n) {s : ByteArray} (hs : str (xs.take k) = s) : (convert 39 9 (.slice (some ⟨g,0,none⟩) k cap)).run Tryz.prog w = .ok (.string s) w := by
 subst hs
 exact (Bs.front h k hk).str_ 39 9 Tryz.underlying39 Tryz.underlying5 Tryz.underlying9
theorem conv_one_drew (w : World) (y : Int) (h0 : 0 ≤ y) (h1 : y ≤ 255) {s : ByteArray} (hs : str [y] = s) : (convert 39 9 (.slice (some ⟨w.heap.size,0,none⟩) 1 1)).run Tryz.prog (w.alloc (.cells #[.int .u8 y] 5)).drew = .ok (.string s) (w.alloc (.cells #[.int .u8 y] 5)).drew := by
 subst hs
 exact ((Bs.new_ w 5 (0,0) [y] (by intro z hz; simp at hz; omega)).below ((Below.refl _ _).drew)).str_ 39 9 Tryz.underlying39 Tryz.underlying5 Tryz.underlying9
theorem above_calls (g cap : Nat) (xs : List Int) (w : World) (hb : Bs w (some ⟨g,0,none⟩) 5 xs) (hc : 5 ≤ cap) (h0 : xs.getD 0 0 < 255) :
 Calls Tryz.prog 156 #[.slice (some ⟨g,0,none⟩) 5 cap] w fun e w' => ∃ S,e = .returned (.string S) ∧ Hid (Up xs S) ∧ Below w.heap.size w w' := by
 have HB := hQ_ hb
 have H0 := hQ_ h0
 clear hb h0
 go_enter Tryz.func156,Tryz.ntmps156
 go_wp2
 go_loop [3] (fun v => ∃ k : Nat,k < 5 ∧ v = .int .i64 k ∧ Hid (∀ j,k < j → j < 5 → xs.getD j 0 = 255)) (fun v => (intOf v).toNat)
 case atStart => exact ⟨4,by omega,rfl,hQ_ (fun j h1 h2 => by omega)⟩
 case round =>
  obtain ⟨k,hk,rfl,HK⟩ := hrel
  have hcell := HB.out.at_ k hk
  rw [Nat.zero_add] at hcell
  have hbd := HB.out.bd k
  by_cases hx : xs.getD k 0 = 255
  ·rw [hx] at hcell
   have hk1 : 0 < k := by
    rcases Nat.eq_zero_or_pos k with rfl | h
    ·have := H0.out
     omega
    ·exact h
   have HX := hQ_ hx
   clear hx hbd
   go_wp2
   go_round
   case rel => exact ⟨k - 1,by omega,by go_num,hQ_ (fun j h1 h2 => (by
    rcases Nat.lt_or_ge k j with h | h
    ·exact HK.out j h h2
    ·obtain rfl : j = k := by omega
     exact HX.out))⟩
   case measure => simp [intOf]; omega
  ·have hUp : Up xs (str (xs.take k ++ [xs.getD k 0 + 1])) := ⟨k,by rw [HB.out.len]; exact hk,by omega,fun j h1 h2 => HK.out j h1 (by rw [← HB.out.len]; exact h2),txt_str _ (by
    intro z hz
    rcases List.mem_append.1 hz with h | h
    ·exact HB.out.2.1 z (List.mem_of_mem_take h)
    ·rw [List.mem_singleton] at h
     omega)⟩
   rw [← str_append] at hUp
   have HU := hQ_ hUp
   have hy : (xs.getD k 0 == 255) = false := by rw [beq_eq_false_iff_ne]; exact hx
   have hz1 : ((str (xs.take k)).size : Int) ≤ 8388608 := by rw [str_size,List.length_take,HB.out.len]; omega
   have hz2 : ((str [xs.getD k 0 + 1]).size : Int) ≤ 8388608 := by rw [str_size]; simp
   generalize hyy : xs.getD k 0 = y at hcell hbd hx hy HU hz2
   obtain ⟨s1,hs1⟩ : ∃ s,str (xs.take k) = s := ⟨_,rfl⟩
   obtain ⟨s2,hs2⟩ : ∃ s,str [y + 1] = s := ⟨_,rfl⟩
   rw [hs1] at HU hz1
   rw [hs2] at HU hz2
   have hkc : k ≤ cap := by omega
   have hk5 : (k : Int) < 5 := by omega
   have c1 := conv_front (cap := cap) (HB.out.below ((Below.refl _ _).drew)) k (by omega) hs1
   have hb1 := bN_ w (.cells #[.int .u8 (y + 1)] 5)
   have c3 := conv_front (cap := cap) (HB.out.below hb1.drew) k (by omega) hs1
   have c2 := conv_one_drew w (y + 1) (by omega) (by omega) hs2
   have r1 : IntKind.u8.wrap (y + 1) = y + 1 := by rw [IntKind.wrap_u8]; omega
   have hq9 : ¬ 9223372036854775807 < s1.size + s2.size := by omega
   have HBB := hQ_ hb1
   clear hx hyy hs1 hs2 hUp hb1
   go_wp2
   go_region
   all_goals
    go_wp2
    go_ret
    exact ⟨_,rfl,HU,HBB.out.drew⟩
theorem kq_front (c ino : Int) : (kq c ino).getD 0 0 = c := rfl
theorem above_of {zs : List Int} {w w1 v : World} {g cap : Nat} {c : Int} (hf : zs.getD 0 0 = c) (hc : c < 255) (ho : Ob w1 w.heap.size 5 g 5 cap zs) (hv : Below w1.heap.size w1 v) :
 Calls Tryz.prog 156 #[.slice (some ⟨g,0,none⟩) 5 cap] v fun e w' => ∃ S,e = .returned (.string S) ∧ Hid (Up zs S) ∧ Below v.heap.size v w' :=
 above_calls g cap zs v (ho.bs.below hv) ho.capLe (by rw [hf]; exact hc)
theorem conv_after {zs : List Int} {w1 v : World} {g cap : Nat} {s : ByteArray} (hb : Bs w1 (some ⟨g,0,none⟩) 5 zs) (hs : str zs = s) (hv : Below w1.heap.size w1 v) :
 (convert 39 9 (.slice (some ⟨g,0,none⟩) 5 cap)).run Tryz.prog v = .ok (.string s) v := by
 subst hs
 exact (hb.below hv).str_ 39 9 Tryz.underlying39 Tryz.underlying5 Tryz.underlying9
theorem up_size {xs : List Int} {S : ByteArray} (h : Up xs S) : S.size ≤ xs.length := by
 obtain ⟨k,hk,_,_,e⟩ := h
 have := congrArg List.length e
 rw [txt_len,List.length_append,List.length_take] at this
 simp at this
 omega
theorem entries_small (ino : Int) (w : World) (h0 : 0 ≤ ino) (h1 : ino ≤ 4294967295) : Calls Tryz.prog 141 #[.int .u32 ino] w fun e w' => ∃ a b,e = .returned (.tuple #[.string a,.string b]) ∧ Hid (Rng a b fun s => decide (s.letter = 69) && decide (s.ino = ino)) ∧ a.size ≤ 7 ∧ b.size ≤ 7 ∧ Below w.heap.size w w' := by
 have HQ := hQ_ (fun w => head_calls 69 ino w (by omega) (by omega) h0 h1)
 have HL := hQ_ (kq_len 69 ino)
 have HF := hQ_ (kq_front 69 ino)
 have HR : Hid (∀ a b,txt a = kq 69 ino → Up (kq 69 ino) b → Rng a b fun s => decide (s.letter = 69) && decide (s.ino = ino)) := hQ_ (fun a b ha hb => rng_entries ha hb h0 h1)
 have HT := hQ_ (ks_txt (c := 69) (ino := ino) (by omega) (by omega))
 have HK : Hid (str (kq 69 ino) = ks 69 ino) := hQ_ rfl
 generalize ks 69 ino = ss at HT HK
 generalize kq 69 ino = zs at HQ HL HF HR HT HK
 go_enter Tryz.func141,Tryz.ntmps141
 go_wp2_with fail
 refine (HQ.out _).mono ?_
 intro e w2 hm
 obtain ⟨g,cap,rfl,ho,hb2⟩ := hm.at_ HL.out
 have HB2 := hQ_ hb2
 have HBS := hQ_ ho.bs
 have AB := hQ_ (above_of HF.out (by omega) ho ((Below.refl _ _).drew))
 have c1 := conv_after (cap := cap) ho.bs HK.out ((Below.refl _ _).drew)
 clear hm ho hb2
 go_wp2_with fail
 go_region_law (go_simp; go_at_call 156; refine AB.out.mono ?_; rintro e w3 ⟨S,rfl,HU,hb3⟩; have c4 := conv_after (cap := cap) HBS.out HK.out (keeps ((Below.refl _ _).drew) hb3); have HB3 := hQ_ (keeps HB2.out (keeps ((Below.refl _ _).drew) hb3)); clear hb3)
 all_goals
  go_wp2_with fail
  go_ret2
  exact ⟨ss,S,rfl,hQ_ (HR.out ss S HT.out HU.out),by have := congrArg List.length HT.out; rw [txt_len,HL.out] at this; omega,by have := up_size HU.out; rw [HL.out] at this; omega,HB3.out⟩
theorem blocks_small (ino n : Int) (w : World) (h0 : 0 ≤ ino) (h1 : ino ≤ 4294967295) (hn0 : -9223372036854775808 ≤ n) (hn1 : n ≤ 9223372036854775807) : Calls Tryz.prog 131 #[.int .u32 ino,.int .i64 n] w fun e w' => ∃ a b,e = .returned (.tuple #[.string a,.string b]) ∧ Hid (Rng a b fun s => decide (s.letter = 68) && decide (s.ino = ino) && decide (n ≤ s.n)) ∧ a.size ≤ 7 ∧ b.size ≤ 7 ∧ Below w.heap.size w w' := by
 have HQ := hQ_ (fun w => head_calls 68 ino w (by omega) (by omega) h0 h1)
 have HL := hQ_ (kq_len 68 ino)
 have HF := hQ_ (kq_front 68 ino)
 have HM : Hid (∀ a b,txt a = kq 68 ino ++ [max n 0 / 256,max n 0 % 256] → Up (kq 68 ino) b → n ≤ 65535 → Rng a b fun s => decide (s.letter = 68) && decide (s.ino = ino) && decide (n ≤ s.n)) := hQ_ (fun a b ha hb hn => rng_blocks ha hb h0 h1 hn)
 have HN : Hid (∀ b,65535 < n → Rng b b fun s => decide (s.letter = 68) && decide (s.ino = ino) && decide (n ≤ s.n)) := hQ_ (fun b hb => rng_none hb)
 obtain ⟨zs,hzs⟩ : ∃ z,kq 68 ino = z := ⟨_,rfl⟩
 rw [hzs] at HQ HL HF HM
 by_cases hl : 65535 < n
 ·have d2 : decide ((65535 : Int) < n) = true := by simpa using hl
  clear hzs
  go_enter Tryz.func131,Tryz.ntmps131
  go_wp2_with fail
  refine (HQ.out _).mono ?_
  intro e w2 hm
  obtain ⟨g,cap,rfl,ho,hb2⟩ := hm.at_ HL.out
  have HB2 := hQ_ hb2
  have AB := hQ_ (above_of HF.out (by omega) ho (Below.refl _ _))
  clear hm ho hb2
  go_wp2_with fail
  refine AB.out.mono ?_
  rintro e w3 ⟨S,rfl,HU,hb3⟩
  have HB3 := hQ_ (keeps HB2.out hb3)
  clear hb3
  go_wp2_with fail
  go_ret2
  exact ⟨S,S,rfl,hQ_ (HN.out S hl),by have := up_size HU.out; rw [HL.out] at this; omega,by have := up_size HU.out; rw [HL.out] at this; omega,HB3.out⟩
 ·have d2 : decide ((65535 : Int) < n) = false := by simp; omega
  have HBK := hQ_ (fun (w : World) => block_calls ino (max n 0) w h0 h1 (by omega) (by omega))
  unfold Txt at HBK
  have HT : Hid (txt (kD ino (max n 0)) = zs ++ [max n 0 / 256,max n 0 % 256]) := hQ_ (by
   have hk : kD ino (max n 0) = ks 68 ino ++ str [max n 0 / 256,max n 0 % 256] := if_neg (by omega)
   rw [hk,txt_append,ks_txt (by omega) (by omega),txt_str _ (by simp; omega),hzs])
  obtain ⟨ss,hss⟩ : ∃ z,kD ino (max n 0) = z := ⟨_,rfl⟩
  rw [hss] at HBK HT
  clear hss hzs
  go_enter Tryz.func131,Tryz.ntmps131
  go_wp2_with fail
  refine (HQ.out _).mono ?_
  intro e w2 hm
  obtain ⟨g,cap,rfl,ho,hb2⟩ := hm.at_ HL.out
  have HB2 := hQ_ hb2
  have AB := hQ_ (above_of HF.out (by omega) ho (Below.refl _ _))
  clear hm ho hb2
  go_wp2_with fail
  refine AB.out.mono ?_
  rintro e w3 ⟨S,rfl,HU,hb3⟩
  have HB3 := hQ_ (keeps HB2.out hb3)
  clear hb3
  go_wp2_with fail
  all_goals
   refine (HBK.out _).mono ?_
   rintro e w4 ⟨rfl,hb4⟩
   have HB4 := hQ_ (keeps HB3.out hb4)
   clear hb4
   go_wp2_with fail
   go_ret2
   exact ⟨ss,S,rfl,hQ_ (HM.out ss S HT.out HU.out (by omega)),by have := congrArg List.length HT.out; rw [txt_len,List.length_append,HL.out] at this; simp at this; omega,by have := up_size HU.out; rw [HL.out] at this; omega,HB4.out⟩
end Go.Proofs.YtogdjbhjgbnicaaGreatDoor.KeysB