import Derived.Test.YtogdjbhjgbnicaaGreatDoorKeysS
import Derived.Deep.Onto
import Derived.Test.YtogdjbhjgbnicaaGreatDoorSq
import Derived.Test.YtogdjbhjgbnicaaGreatDoorOpsNumbersMAO
import Derived.LoopTactic
import Derived.RegionTactic
import Derived.ChangeAlike
import Derived.Test.YtogdjbhjgbnicaaGreatDoorPackG
import Derived.Deep.RegionLaw
import Derived.Test.YtogdjbhjgbnicaaGreatDoorOpsNumbersMBL
import Derived.Test.YtogdjbhjgbnicaaGreatDoorNodeK
import Derived.Deep.QuietTactic
import Derived.BigQuiet
import Derived.Test.YtogdjbhjgbnicaaGreatDoorTx
import Derived.Laws.Concat
import Derived.WalkLawsBesides
import Derived.WalkSpells
import Derived.Lib.MinMax
import Derived.Lib.Split
import Derived.Lib.Join
import Derived.Test.YtogdjbhjgbnicaaGreatDoorProg
import Derived.Shelf.Strings.SplitShaped
import Derived.Shelf.Strings.OnBuilder
import Derived.Shelf.Strings.Prefix
import Derived.Shelf.Slices.Empties2
import Derived.KernelRfl
import Derived.Laws.RangeString
import Derived.Laws.RangeAny
import Derived.Laws.EntriesVeiled
import Derived.Outline
import Derived.Deep.MidRow
set_option linter.unusedVariables false
set_option linter.unusedSimpArgs false
namespace Go.Proofs.YtogdjbhjgbnicaaGreatDoor.KeysN
open Go.RowKit
open Byte KeysM KeysR KeysS
theorem toList_d (s : ByteArray) : s.toList = s.data.toList := ByteArray.toList_eq s
theorem is_txt (s : ByteArray) (l : List UInt8) : txt s = l.map (fun b => (b.toNat : Int)) ↔ s.toList = l := by
 have ht : s.toList = s.data.toList := toList_d s
 rw [ht]
 unfold txt
 constructor
 ·intro h
  have h2 := congrArg (List.map (fun x : Int => UInt8.ofNat x.toNat)) h
  simpa [List.map_map,Function.comp_def] using h2
 ·intro h
  rw [h]
theorem name_bad {s : ByteArray} {k : Nat} (hk : k < s.size) (h : (txt s).getD k 0 = 0 ∨ (txt s).getD k 0 = 47) : nameOk s = false := by
 have hl : k < (txt s).length := by rw [txt_len]; exact hk
 have hm : (txt s).getD k 0 ∈ txt s := by
  rw [List.getD_eq_getElem?_getD,List.getElem?_eq_getElem hl]
  exact List.getElem_mem hl
 have ha : (txt s).all (fun x => decide (x ≠ 0) && decide (x ≠ 47)) = false := by
  cases hall : (txt s).all (fun x => decide (x ≠ 0) && decide (x ≠ 47)) with
  | false => rfl
  | true =>
    have := List.all_eq_true.1 hall _ hm
    rcases h with h | h <;> rw [h] at this <;> simp at this
 unfold nameOk
 rw [ha]
 simp
theorem name_all {s : ByteArray} (h : ∀ j,j < s.size → (txt s).getD j 0 ≠ 0 ∧ (txt s).getD j 0 ≠ 47) : nameOk s = (decide (0 < s.size) && decide (s.size ≤ 32) && !(s.toList == [46]) && !(s.toList == [46,46])) := by
 have ha : (txt s).all (fun x => decide (x ≠ 0) && decide (x ≠ 47)) = true := by
  rw [List.all_eq_true]
  intro x hx
  obtain ⟨j,hj,rfl⟩ := List.mem_iff_getElem.1 hx
  have := h j (by rw [← txt_len]; exact hj)
  rw [List.getD_eq_getElem?_getD,List.getElem?_eq_getElem hj] at this
  simpa using this
 have h1 : decide (txt s ≠ [46]) = !(s.toList == [46]) := by
  have := is_txt s [46]
  rw [Bool.eq_iff_iff]
  simp only [decide_eq_true_eq,Bool.not_eq_true',beq_eq_false_iff_ne,ne_eq]
  exact not_congr this
 have h2 : decide (txt s ≠ [46,46]) = !(s.toList == [46,46]) := by
  have := is_txt s [46,46]
  rw [Bool.eq_iff_iff]
  simp only [decide_eq_true_eq,Bool.not_eq_true',beq_eq_false_iff_ne,ne_eq]
  exact not_congr this
 unfold nameOk
 rw [ha,h1,h2,Bool.and_true]
end Go.Proofs.YtogdjbhjgbnicaaGreatDoor.KeysN
namespace Go.Proofs.YtogdjbhjgbnicaaGreatDoor.KeysL
open Go.RowKit
open Byte KeysM KeysR KeysS KeysN
def Txt (s : ByteArray) (w : World) (e : Ending) (w' : World) : Prop := e = .returned (.string s) ∧ Below w.heap.size w w'
def InodeOk : Prop := ∀ (ino : Int) (w : World),0 ≤ ino → ino ≤ 4294967295 → Calls Tryz.prog 123 #[.int .u32 ino] w (Txt (kI ino) w)
def EntryOk : Prop := ∀ (ino : Int) (name : ByteArray) (w : World),0 ≤ ino → ino ≤ 4294967295 → name.size ≤ 100000 → Calls Tryz.prog 125 #[.int .u32 ino,.string name] w (Txt (kE ino name) w)
def BlockOk : Prop := ∀ (ino n : Int) (w : World),0 ≤ ino → ino ≤ 4294967295 → -9223372036854775808 ≤ n → n ≤ 9223372036854775807 → Calls Tryz.prog 135 #[.int .u32 ino,.int .i64 n] w (Txt (kD ino n) w)
def SplitOk : Prop := ∀ (key : ByteArray) (w : World),key.size ≤ 100000 → Calls Tryz.prog 132 #[.string key] w (SpE (sp key) w)
def NameOk : Prop := ∀ (s : ByteArray) (w : World),s.size ≤ 100000 → Calls Tryz.prog 163 #[.string s] w fun e w' => e = .returned (.bool (nameOk s)) ∧ Below w.heap.size w w'
end Go.Proofs.YtogdjbhjgbnicaaGreatDoor.KeysL
set_option maxHeartbeats 16000000
set_option maxRecDepth 100000
namespace Go.Proofs.YtogdjbhjgbnicaaGreatDoor.KeysC
open Go.RowKit
open Byte PackM PackV KeysM KeysR KeysS KeysL KeysV
theorem head_calls (c ino : Int) (w : World) (hc0 : 0 ≤ c) (hc1 : c ≤ 255) (h0 : 0 ≤ ino) (h1 : ino ≤ 4294967295) :
 Calls Tryz.prog 149 #[.int .u8 c,.int .u32 ino] w (Made (kq c ino) w) := by
 have hbw := bN_ w (.cells #[.int .u8 c] 5)
 have HB := hQ_ hbw
 have HP := hQ_ (put_calls (some ⟨w.heap.size,0,none⟩) 1 1 [c] 4 ino (w.alloc (.cells #[.int .u8 c] 5)) (Bs.new_ w 5 (0,0) [c] (by intro z hz; rw [List.mem_singleton] at hz; omega)) (by omega) (by omega) (by omega))
 rw [kq_of] at HP
 have HL := hQ_ (kq_len c ino)
 clear hbw
 obtain ⟨zs,hzs⟩ : ∃ z,kq c ino = z := ⟨_,rfl⟩
 rw [hzs] at HP HL ⊢
 clear hzs
 go_enter Tryz.func149,Tryz.ntmps149
 go_wp2_with (go_at_call 126; refine HP.out.mono ?_; intro e w2 hm; obtain ⟨g,cap,rfl,ho,hb2⟩ := hm.at_ HL.out; have HO : Hid (Ob w2 w.heap.size 5 g 5 cap zs) := hQ_ ⟨ho.1,ho.2.1,World.ownsRow.mono ho.2.2 HB.out.size⟩; have HB2 := hQ_ (keeps HB.out hb2); clear hm ho hb2)
 go_ret
 exact Made.of HL.out rfl HO.out HB2.out
theorem inode_calls : InodeOk := by
 intro ino w h0 h1
 unfold Txt
 have HQ := hQ_ (fun w => head_calls 73 ino w (by omega) (by omega) h0 h1)
 have HK : Hid (str (kq 73 ino) = kI ino) := hQ_ rfl
 have HL := hQ_ (kq_len 73 ino)
 obtain ⟨zs,hzs⟩ : ∃ z,kq 73 ino = z := ⟨_,rfl⟩
 obtain ⟨ss,hss⟩ : ∃ z,kI ino = z := ⟨_,rfl⟩
 rw [hzs] at HQ HK HL
 rw [hss] at HK ⊢
 clear hzs hss
 go_enter Tryz.func123,Tryz.ntmps123
 go_wp2_with (go_at_call 149; refine (HQ.out _).mono ?_; intro e w2 hm; obtain ⟨g,cap,rfl,ho,hb2⟩ := hm.at_ HL.out; have hs := ho.str_ (P := Tryz.prog) 39 9 Tryz.underlying39 Tryz.underlying5 Tryz.underlying9; rw [HK.out] at hs; have HB2 := hQ_ hb2; clear hm ho hb2)
 go_ret
 exact ⟨rfl,HB2.out⟩
theorem entry_calls : EntryOk := by
 intro ino name w h0 h1 hn
 unfold Txt
 by_cases hl : 32 < name.size
 ·have he : kE ino name = E0 := if_pos hl
  rw [he]
  have d : decide ((32 : Int) < (name.size : Int)) = true := by simp; omega
  clear he
  go_enter Tryz.func125,Tryz.ntmps125
  go_wp2_with fail
  go_ret
  exact ⟨rfl,Below.refl _ _⟩
 ·have he : kE ino name = ks 69 ino ++ name := if_neg hl
  rw [he]
  have d : decide ((32 : Int) < (name.size : Int)) = false := by simp; omega
  have hs : ((ks 69 ino).size : Int) ≤ 8388608 := by rw [ks_size]; omega
  have hs2 : (name.size : Int) ≤ 8388608 := by omega
  have HQ := hQ_ (fun w => head_calls 69 ino w (by omega) (by omega) h0 h1)
  have HK : Hid (str (kq 69 ino) = ks 69 ino) := hQ_ rfl
  have HL := hQ_ (kq_len 69 ino)
  obtain ⟨zs,hzs⟩ : ∃ z,kq 69 ino = z := ⟨_,rfl⟩
  obtain ⟨ss,hss⟩ : ∃ z,ks 69 ino = z := ⟨_,rfl⟩
  rw [hzs] at HQ HK HL
  rw [hss] at HK hs ⊢
  clear he hzs hss
  go_enter Tryz.func125,Tryz.ntmps125
  go_wp2_with (go_at_call 149; refine (HQ.out _).mono ?_; intro e w2 hm; obtain ⟨g,cap,rfl,ho,hb2⟩ := hm.at_ HL.out; have hst := ho.str_ (P := Tryz.prog) 39 9 Tryz.underlying39 Tryz.underlying5 Tryz.underlying9; rw [HK.out] at hst; have HB2 := hQ_ hb2; clear hm ho hb2)
  go_ret
  exact ⟨rfl,HB2.out⟩
theorem low2 (n : Int) (h0 : 0 ≤ n) (h1 : n ≤ 65535) : low (width 2) n = [n / 256,n % 256] := by
 have e : low (width 2) n = [n / 256 % 256,n % 256] := by
  show low 2 n = _
  simp [low]
 rw [e,show n / 256 % 256 = n / 256 by omega]
theorem block_calls : BlockOk := by
 intro ino n w h0 h1 hn0 hn1
 unfold Txt
 have HQ := hQ_ (fun w => head_calls 68 ino w (by omega) (by omega) h0 h1)
 rcases (show n < 0 ∨ (0 ≤ n ∧ 65535 < n) ∨ (0 ≤ n ∧ n ≤ 65535) by omega) with hl | ⟨hl,hl2⟩ | ⟨hl,hl2⟩
 ·have he : kD ino n = E0 := if_pos (.inl hl)
  rw [he]
  have d : decide (n < (0 : Int)) = true := by simpa using hl
  clear he
  go_enter Tryz.func135,Tryz.ntmps135
  go_wp2_with fail
  go_ret
  exact ⟨rfl,Below.refl _ _⟩
 ·have he : kD ino n = E0 := if_pos (.inr (by omega))
  rw [he]
  have d : decide (n < (0 : Int)) = false := by simp; omega
  have d2 : decide ((65535 : Int) < n) = true := by simpa using hl2
  clear he
  go_enter Tryz.func135,Tryz.ntmps135
  go_wp2_with fail
  go_ret
  exact ⟨rfl,Below.refl _ _⟩
 ·have he : kD ino n = str (kq 68 ino ++ low (width 2) n) := by
   rw [low2 n hl hl2,← str_append]
   exact if_neg (by omega)
  rw [he]
  have d : decide (n < (0 : Int)) = false := by simp; omega
  have d2 : decide ((65535 : Int) < n) = false := by simp; omega
  have r1 : IntKind.u64.wrap n = n := by rw [IntKind.wrap_u64]; omega
  have HL := hQ_ (kq_len 68 ino)
  have HL2 : Hid ((kq 68 ino ++ low (width 2) n).length = 7) := hQ_ (by rw [List.length_append,kq_len,low_len]; rfl)
  obtain ⟨q,hq⟩ : ∃ q,kq 68 ino = q := ⟨_,rfl⟩
  rw [hq] at HQ HL HL2 ⊢
  obtain ⟨r,hr⟩ : ∃ r,q ++ low (width 2) n = r := ⟨_,rfl⟩
  obtain ⟨ss,hss⟩ : ∃ z,str r = z := ⟨_,rfl⟩
  rw [hr] at HL2 ⊢
  rw [hss]
  have HR := hQ_ hr
  have HS := hQ_ hss
  clear hq he hr hss
  go_enter Tryz.func135,Tryz.ntmps135
  go_wp2_with fail
  refine (HQ.out _).mono ?_
  intro e w2 hm
  obtain ⟨g,cap,rfl,ho,hb2⟩ := hm.at_ HL.out
  have HB2 := hQ_ hb2
  have HP := hQ_ (put_calls (some ⟨g,0,none⟩) 5 cap q 2 n w2 ho.bs (by omega) (by omega) (by omega))
  rw [HR.out] at HP
  clear hm ho hb2
  go_wp2_with fail
  refine HP.out.mono ?_
  intro e w3 hm
  obtain ⟨g3,cap3,rfl,ho,hb3⟩ := hm.at_ HL2.out
  have hst := ho.str_ (P := Tryz.prog) 39 9 Tryz.underlying39 Tryz.underlying5 Tryz.underlying9
  rw [HS.out] at hst
  have HB3 := hQ_ (keeps HB2.out hb3)
  clear hm ho hb3
  go_wp2_with fail
  go_ret
  exact ⟨rfl,HB3.out⟩
end Go.Proofs.YtogdjbhjgbnicaaGreatDoor.KeysC
namespace Go.Proofs.YtogdjbhjgbnicaaGreatDoor.KeysB
open Go.RowKit
open Byte PackM PackV KeysM KeysR KeysS KeysL KeysV KeysC
theorem Bs.front {w : World} {g n : Nat} {xs : List Int} (h : Bs w (some ⟨g,0,none⟩) n xs) (k : Nat) (hk : k ≤ n) : Bs w (some ⟨g,0,none⟩) k (xs.take k) := by
 have := h.sub 0 k (by omega)
 simpa using this
theorem conv_front {w : World} {g n cap : Nat} {xs : List Int} (h : Bs w (some ⟨g,0,none⟩) n xs) (k : Nat) (hk : k ≤ n) {s : ByteArray} (hs : str (xs.take k) = s) : (convert 39 9 (.slice (some ⟨g,0,none⟩) k cap)).run Tryz.prog w = .ok (.string s) w := by
 subst hs
 exact (Bs.front h k hk).str_ 39 9 Tryz.underlying39 Tryz.underlying5 Tryz.underlying9
theorem conv_one_drew (w : World) (y : Int) (h0 : 0 ≤ y) (h1 : y ≤ 255) {s : ByteArray} (hs : str [y] = s) : (convert 39 9 (.slice (some ⟨w.heap.size,0,none⟩) 1 1)).run Tryz.prog (w.alloc (.cells #[.int .u8 y] 5)).drew = .ok (.string s) (w.alloc (.cells #[.int .u8 y] 5)).drew := by
 subst hs
 exact ((Bs.new_ w 5 (0,0) [y] (by intro z hz; simp at hz; omega)).below ((Below.refl _ _).drew)).str_ 39 9 Tryz.underlying39 Tryz.underlying5 Tryz.underlying9
theorem above_calls (g cap : Nat) (xs : List Int) (w : World) (hb : Bs w (some ⟨g,0,none⟩) 5 xs) (hc : 5 ≤ cap) (h0 : xs.getD 0 0 < 255) :
 Calls Tryz.prog 156 #[.slice (some ⟨g,0,none⟩) 5 cap] w fun e w' => ∃ S,e = .returned (.string S) ∧ Hid (Up xs S) ∧ Below w.heap.size w w' := by
 have HB := hQ_ hb
 have H0 := hQ_ h0
 clear hb h0
 go_enter Tryz.func156,Tryz.ntmps156
 go_wp2
 go_loop [3] (fun v => ∃ k : Nat,k < 5 ∧ v = .int .i64 k ∧ Hid (∀ j,k < j → j < 5 → xs.getD j 0 = 255)) (fun v => (intOf v).toNat)
 case atStart => exact ⟨4,by omega,rfl,hQ_ (fun j h1 h2 => by omega)⟩
 case round =>
  obtain ⟨k,hk,rfl,HK⟩ := hrel
  have hcell := HB.out.at_ k hk
  rw [Nat.zero_add] at hcell
  have hbd := HB.out.bd k
  by_cases hx : xs.getD k 0 = 255
  ·rw [hx] at hcell
   have hk1 : 0 < k := by
    rcases Nat.eq_zero_or_pos k with rfl | h
    ·have := H0.out
     omega
    ·exact h
   have HX := hQ_ hx
   clear hx hbd
   go_wp2
   go_round
   case rel => exact ⟨k - 1,by omega,by go_num,hQ_ (fun j h1 h2 => (by
    rcases Nat.lt_or_ge k j with h | h
    ·exact HK.out j h h2
    ·obtain rfl : j = k := by omega
     exact HX.out))⟩
   case measure => simp [intOf]; omega
  ·have hUp : Up xs (str (xs.take k ++ [xs.getD k 0 + 1])) := ⟨k,by rw [HB.out.len]; exact hk,by omega,fun j h1 h2 => HK.out j h1 (by rw [← HB.out.len]; exact h2),txt_str _ (by
    intro z hz
    rcases List.mem_append.1 hz with h | h
    ·exact HB.out.2.1 z (List.mem_of_mem_take h)
    ·rw [List.mem_singleton] at h
     omega)⟩
   rw [← str_append] at hUp
   have HU := hQ_ hUp
   have hy : (xs.getD k 0 == 255) = false := by rw [beq_eq_false_iff_ne]; exact hx
   have hz1 : ((str (xs.take k)).size : Int) ≤ 8388608 := by rw [str_size,List.length_take,HB.out.len]; omega
   have hz2 : ((str [xs.getD k 0 + 1]).size : Int) ≤ 8388608 := by rw [str_size]; simp
   generalize hyy : xs.getD k 0 = y at hcell hbd hx hy HU hz2
   obtain ⟨s1,hs1⟩ : ∃ s,str (xs.take k) = s := ⟨_,rfl⟩
   obtain ⟨s2,hs2⟩ : ∃ s,str [y + 1] = s := ⟨_,rfl⟩
   rw [hs1] at HU hz1
   rw [hs2] at HU hz2
   have hkc : k ≤ cap := by omega
   have hk5 : (k : Int) < 5 := by omega
   have c1 := conv_front (cap := cap) (HB.out.below ((Below.refl _ _).drew)) k (by omega) hs1
   have hb1 := bN_ w (.cells #[.int .u8 (y + 1)] 5)
   have c3 := conv_front (cap := cap) (HB.out.below hb1.drew) k (by omega) hs1
   have c2 := conv_one_drew w (y + 1) (by omega) (by omega) hs2
   have r1 : IntKind.u8.wrap (y + 1) = y + 1 := by rw [IntKind.wrap_u8]; omega
   have hq9 : ¬ 9223372036854775807 < s1.size + s2.size := by omega
   have HBB := hQ_ hb1
   clear hx hyy hs1 hs2 hUp hb1
   go_wp2
   go_region
   all_goals
    go_wp2
    go_ret
    exact ⟨_,rfl,HU,HBB.out.drew⟩
theorem kq_front (c ino : Int) : (kq c ino).getD 0 0 = c := rfl
theorem above_of {zs : List Int} {w w1 v : World} {g cap : Nat} {c : Int} (hf : zs.getD 0 0 = c) (hc : c < 255) (ho : Ob w1 w.heap.size 5 g 5 cap zs) (hv : Below w1.heap.size w1 v) :
 Calls Tryz.prog 156 #[.slice (some ⟨g,0,none⟩) 5 cap] v fun e w' => ∃ S,e = .returned (.string S) ∧ Hid (Up zs S) ∧ Below v.heap.size v w' :=
 above_calls g cap zs v (ho.bs.below hv) ho.capLe (by rw [hf]; exact hc)
theorem conv_after {zs : List Int} {w1 v : World} {g cap : Nat} {s : ByteArray} (hb : Bs w1 (some ⟨g,0,none⟩) 5 zs) (hs : str zs = s) (hv : Below w1.heap.size w1 v) :
 (convert 39 9 (.slice (some ⟨g,0,none⟩) 5 cap)).run Tryz.prog v = .ok (.string s) v := by
 subst hs
 exact (hb.below hv).str_ 39 9 Tryz.underlying39 Tryz.underlying5 Tryz.underlying9
theorem up_size {xs : List Int} {S : ByteArray} (h : Up xs S) : S.size ≤ xs.length := by
 obtain ⟨k,hk,_,_,e⟩ := h
 have := congrArg List.length e
 rw [txt_len,List.length_append,List.length_take] at this
 simp at this
 omega
theorem entries_small (ino : Int) (w : World) (h0 : 0 ≤ ino) (h1 : ino ≤ 4294967295) : Calls Tryz.prog 141 #[.int .u32 ino] w fun e w' => ∃ a b,e = .returned (.tuple #[.string a,.string b]) ∧ Hid (Rng a b fun s => decide (s.letter = 69) && decide (s.ino = ino)) ∧ a.size ≤ 7 ∧ b.size ≤ 7 ∧ Below w.heap.size w w' := by
 have HQ := hQ_ (fun w => head_calls 69 ino w (by omega) (by omega) h0 h1)
 have HL := hQ_ (kq_len 69 ino)
 have HF := hQ_ (kq_front 69 ino)
 have HR : Hid (∀ a b,txt a = kq 69 ino → Up (kq 69 ino) b → Rng a b fun s => decide (s.letter = 69) && decide (s.ino = ino)) := hQ_ (fun a b ha hb => rng_entries ha hb h0 h1)
 have HT := hQ_ (ks_txt (c := 69) (ino := ino) (by omega) (by omega))
 have HK : Hid (str (kq 69 ino) = ks 69 ino) := hQ_ rfl
 generalize ks 69 ino = ss at HT HK
 generalize kq 69 ino = zs at HQ HL HF HR HT HK
 go_enter Tryz.func141,Tryz.ntmps141
 go_wp2_with fail
 refine (HQ.out _).mono ?_
 intro e w2 hm
 obtain ⟨g,cap,rfl,ho,hb2⟩ := hm.at_ HL.out
 have HB2 := hQ_ hb2
 have HBS := hQ_ ho.bs
 have AB := hQ_ (above_of HF.out (by omega) ho ((Below.refl _ _).drew))
 have c1 := conv_after (cap := cap) ho.bs HK.out ((Below.refl _ _).drew)
 clear hm ho hb2
 go_wp2_with fail
 go_region_law (go_simp; go_at_call 156; refine AB.out.mono ?_; rintro e w3 ⟨S,rfl,HU,hb3⟩; have c4 := conv_after (cap := cap) HBS.out HK.out (keeps ((Below.refl _ _).drew) hb3); have HB3 := hQ_ (keeps HB2.out (keeps ((Below.refl _ _).drew) hb3)); clear hb3)
 all_goals
  go_wp2_with fail
  go_ret2
  exact ⟨ss,S,rfl,hQ_ (HR.out ss S HT.out HU.out),by have := congrArg List.length HT.out; rw [txt_len,HL.out] at this; omega,by have := up_size HU.out; rw [HL.out] at this; omega,HB3.out⟩
theorem blocks_small (ino n : Int) (w : World) (h0 : 0 ≤ ino) (h1 : ino ≤ 4294967295) (hn0 : -9223372036854775808 ≤ n) (hn1 : n ≤ 9223372036854775807) : Calls Tryz.prog 131 #[.int .u32 ino,.int .i64 n] w fun e w' => ∃ a b,e = .returned (.tuple #[.string a,.string b]) ∧ Hid (Rng a b fun s => decide (s.letter = 68) && decide (s.ino = ino) && decide (n ≤ s.n)) ∧ a.size ≤ 7 ∧ b.size ≤ 7 ∧ Below w.heap.size w w' := by
 have HQ := hQ_ (fun w => head_calls 68 ino w (by omega) (by omega) h0 h1)
 have HL := hQ_ (kq_len 68 ino)
 have HF := hQ_ (kq_front 68 ino)
 have HM : Hid (∀ a b,txt a = kq 68 ino ++ [max n 0 / 256,max n 0 % 256] → Up (kq 68 ino) b → n ≤ 65535 → Rng a b fun s => decide (s.letter = 68) && decide (s.ino = ino) && decide (n ≤ s.n)) := hQ_ (fun a b ha hb hn => rng_blocks ha hb h0 h1 hn)
 have HN : Hid (∀ b,65535 < n → Rng b b fun s => decide (s.letter = 68) && decide (s.ino = ino) && decide (n ≤ s.n)) := hQ_ (fun b hb => rng_none hb)
 obtain ⟨zs,hzs⟩ : ∃ z,kq 68 ino = z := ⟨_,rfl⟩
 rw [hzs] at HQ HL HF HM
 by_cases hl : 65535 < n
 ·have d2 : decide ((65535 : Int) < n) = true := by simpa using hl
  clear hzs
  go_enter Tryz.func131,Tryz.ntmps131
  go_wp2_with fail
  refine (HQ.out _).mono ?_
  intro e w2 hm
  obtain ⟨g,cap,rfl,ho,hb2⟩ := hm.at_ HL.out
  have HB2 := hQ_ hb2
  have AB := hQ_ (above_of HF.out (by omega) ho (Below.refl _ _))
  clear hm ho hb2
  go_wp2_with fail
  refine AB.out.mono ?_
  rintro e w3 ⟨S,rfl,HU,hb3⟩
  have HB3 := hQ_ (keeps HB2.out hb3)
  clear hb3
  go_wp2_with fail
  go_ret2
  exact ⟨S,S,rfl,hQ_ (HN.out S hl),by have := up_size HU.out; rw [HL.out] at this; omega,by have := up_size HU.out; rw [HL.out] at this; omega,HB3.out⟩
 ·have d2 : decide ((65535 : Int) < n) = false := by simp; omega
  have HBK := hQ_ (fun (w : World) => block_calls ino (max n 0) w h0 h1 (by omega) (by omega))
  unfold Txt at HBK
  have HT : Hid (txt (kD ino (max n 0)) = zs ++ [max n 0 / 256,max n 0 % 256]) := hQ_ (by
   have hk : kD ino (max n 0) = ks 68 ino ++ str [max n 0 / 256,max n 0 % 256] := if_neg (by omega)
   rw [hk,txt_append,ks_txt (by omega) (by omega),txt_str _ (by simp; omega),hzs])
  obtain ⟨ss,hss⟩ : ∃ z,kD ino (max n 0) = z := ⟨_,rfl⟩
  rw [hss] at HBK HT
  clear hss hzs
  go_enter Tryz.func131,Tryz.ntmps131
  go_wp2_with fail
  refine (HQ.out _).mono ?_
  intro e w2 hm
  obtain ⟨g,cap,rfl,ho,hb2⟩ := hm.at_ HL.out
  have HB2 := hQ_ hb2
  have AB := hQ_ (above_of HF.out (by omega) ho (Below.refl _ _))
  clear hm ho hb2
  go_wp2_with fail
  refine AB.out.mono ?_
  rintro e w3 ⟨S,rfl,HU,hb3⟩
  have HB3 := hQ_ (keeps HB2.out hb3)
  clear hb3
  go_wp2_with fail
  all_goals
   refine (HBK.out _).mono ?_
   rintro e w4 ⟨rfl,hb4⟩
   have HB4 := hQ_ (keeps HB3.out hb4)
   clear hb4
   go_wp2_with fail
   go_ret2
   exact ⟨ss,S,rfl,hQ_ (HM.out ss S HT.out HU.out (by omega)),by have := congrArg List.length HT.out; rw [txt_len,List.length_append,HL.out] at this; simp at this; omega,by have := up_size HU.out; rw [HL.out] at this; omega,HB4.out⟩
end Go.Proofs.YtogdjbhjgbnicaaGreatDoor.KeysB
namespace Go.Proofs.YtogdjbhjgbnicaaGreatDoor.KeysD
open Go.RowKit
open Byte PackM PackV PackG ConvS KeysM KeysR KeysS KeysL KeysV KeysC KeysB Still
theorem split_out (key : ByteArray) (w : World) (h : key.size < 5 ∨ 37 < key.size) (hk : key.size ≤ 100000) : Calls Tryz.prog 132 #[.string key] w (SpE (sp key) w) := by
 have hs : (key.size : Int) ≤ 9223372036854775807 := by omega
 have e : sp key = ⟨0,0,E0,0⟩ := by
  rcases h with h | h
  ·exact sp_short h
  ·exact sp_none (by omega) (by omega) (by omega)
 rw [e]
 rcases h with h | h
 ·have d : decide ((key.size : Int) < 5) = true := by simp; omega
  clear h e
  go_enter Tryz.func132,Tryz.ntmps132
  go_wp2_with fail
  refine bodyPost_ret (results_tmp4 rfl _ _ _) rfl ?_
  exact ⟨rfl,Below.refl _ _⟩
 ·have d : decide ((key.size : Int) < 5) = false := by simp; omega
  have d2 : decide ((37 : Int) < (key.size : Int)) = true := by simp; omega
  clear h e
  go_enter Tryz.func132,Tryz.ntmps132
  go_wp2_with fail
  refine bodyPost_ret (results_tmp4 rfl _ _ _) rfl ?_
  exact ⟨rfl,Below.refl _ _⟩
structure Fr (key : ByteArray) (w w1 : World) (n cap : Nat) (N y : Int) : Prop where
 size : key.size = n
 lo : 5 ≤ n
 hi : n ≤ 37
 fit : n ≤ cap
 run : (convert 9 39 (.string key)).run Tryz.prog w = .ok (.slice (some ⟨w.heap.size,0,none⟩) n cap) w1
 get : Calls Tryz.prog 157 #[.slice (some ⟨w.heap.size,0,none⟩) n cap,.int .i64 1,.int .i64 4] w1 fun e w' => e = .returned (.tuple #[.int .u64 N,.int .i64 5,.int .i64 0]) ∧ w1 = w'
 below : Below w.heap.size w w1
 bs : Bs w1 (some ⟨w.heap.size,0,none⟩) n (txt key)
 num : getn (txt key) 1 4 = N
 first : (txt key).getD 0 0 = y
theorem fr_of (key : ByteArray) (w : World) (n : Nat) (hn : key.size = n) (h : 5 ≤ n) (h' : n ≤ 37) : ∃ w1 cap,Fr key w w1 n cap (getn (txt key) 1 4) ((txt key).getD 0 0) := by
 obtain ⟨cap,w1,hrun,hf,hb1⟩ := conv_key w key
 have hgo := g_ok (txt key) 1 4 (by have := txt_len key; omega) (by have := txt_len key; rw [show width 4 = 4 from rfl]; omega)
 have hget := get_calls (some ⟨w.heap.size,0,none⟩) n cap (txt key) 1 4 w1 (by rw [← hn]; exact hf.bs) (by omega) (by omega) (by omega) (by omega) (by omega)
 rw [hgo.1,hgo.2.1,hgo.2.2] at hget
 rw [hn] at hrun
 exact ⟨w1,cap,hn,h,h',by rw [← hn]; exact hf.fit,hrun,hget,hb1,by rw [← hn]; exact hf.bs,rfl,rfl⟩
theorem rest_txt {key : ByteArray} {n : Nat} (hn : key.size = n) : str (((txt key).drop 5).take (n - 5)) = key.extract 5 n := by
 subst hn
 apply txt_inj
 rw [txt_str _ (fun x hx => txt_bd key x (List.mem_of_mem_drop (List.mem_of_mem_take hx))),txt_drop,List.take_of_length_le]
 rw [List.length_drop,txt_len]
 omega
theorem two_bytes {key : ByteArray} (hn : key.size = 7) : getn ((txt key).drop 5) 0 2 = 256 * (txt key).getD 5 0 + (txt key).getD 6 0 := by
 have hl : ((txt key).drop 5).length = 2 := by rw [List.length_drop,txt_len]; omega
 have g5 : (txt key).getD 5 0 = ((txt key).drop 5).getD 0 0 := by simp [List.getD_eq_getElem?_getD]
 have g6 : (txt key).getD 6 0 = ((txt key).drop 5).getD 1 0 := by simp [List.getD_eq_getElem?_getD]
 rw [g5,g6]
 generalize (txt key).drop 5 = r at hl
 match r,hl with
 | [p,q],_ =>
   simp [getn,unbe]
   omega
theorem split_i5a (key : ByteArray) (w w1 : World) (n cap : Nat) (N y : Int) (hf : Fr key w w1 n cap N y) (hy : y = 73) (hn : n = 5) (hc : cap = 5) : Calls Tryz.prog 132 #[.string key] w (SpE ⟨73,N,E0,0⟩ w) := by
 have hs : (n : Int) ≤ 9223372036854775807 := by have := hf.hi; omega
 have hNb : 0 ≤ N ∧ N ≤ 4294967295 := by rw [← hf.num]; exact getn_bd key
 have hN0 := hNb.1
 have hN1 := hNb.2
 have r1 : IntKind.u32.wrap N = N := by rw [IntKind.wrap_u32]; omega
 have hrun := hf.run
 have HF := hQ_ hf
 have hsz := hf.size
 have hc0 := hf.bs.at_ 0 (by have := hf.lo; omega)
 rw [hf.first,Nat.zero_add] at hc0
 have hlo := hf.lo
 have hhi := hf.hi
 have hcap := hf.fit
 subst hy
 subst hn
 subst hc
 have d : decide ((5 : Int) < 5) = false := by simp
 have d2 : decide ((37 : Int) < (5 : Int)) = false := by simp
 clear hf hNb
 go_enter Tryz.func132,Tryz.ntmps132
 go_wp2_with (first
  | ((with_reducible refine pick (some 25) ?_); refine wpList_conv rfl 9 39 _ rfl (.string key) (.slice (some ⟨w.heap.size,0,none⟩) 5 5) rfl hrun ?_)
  | (go_at_call 157; (with_reducible refine HF.out.get.mono ?_); rintro e w2 ⟨rfl,rfl⟩))
 refine bodyPost_ret (results_tmp4 rfl _ _ _) rfl ?_
 exact ⟨rfl,HF.out.below⟩
theorem split_i5b (key : ByteArray) (w w1 : World) (n cap : Nat) (N y : Int) (hf : Fr key w w1 n cap N y) (hy : y = 73) (hn : n = 5) (hc : cap ≠ 5) : Calls Tryz.prog 132 #[.string key] w (SpE ⟨73,N,E0,0⟩ w) := by
 have hs : (n : Int) ≤ 9223372036854775807 := by have := hf.hi; omega
 have hNb : 0 ≤ N ∧ N ≤ 4294967295 := by rw [← hf.num]; exact getn_bd key
 have hN0 := hNb.1
 have hN1 := hNb.2
 have r1 : IntKind.u32.wrap N = N := by rw [IntKind.wrap_u32]; omega
 have hrun := hf.run
 have HF := hQ_ hf
 have hsz := hf.size
 have hc0 := hf.bs.at_ 0 (by have := hf.lo; omega)
 rw [hf.first,Nat.zero_add] at hc0
 have hlo := hf.lo
 have hhi := hf.hi
 have hcap := hf.fit
 subst hy
 subst hn
 have d : decide ((5 : Int) < 5) = false := by simp
 have d2 : decide ((37 : Int) < (5 : Int)) = false := by simp
 clear hf hNb
 go_enter Tryz.func132,Tryz.ntmps132
 go_wp2_with (first
  | ((with_reducible refine pick (some 25) ?_); refine wpList_conv rfl 9 39 _ rfl (.string key) (.slice (some ⟨w.heap.size,0,none⟩) 5 cap) rfl hrun ?_)
  | (go_at_call 157; (with_reducible refine HF.out.get.mono ?_); rintro e w2 ⟨rfl,rfl⟩))
 refine bodyPost_ret (results_tmp4 rfl _ _ _) rfl ?_
 exact ⟨rfl,HF.out.below⟩
theorem split_i6 (key : ByteArray) (w w1 : World) (n cap : Nat) (N y : Int) (hf : Fr key w w1 n cap N y) (hy : y = 73) (hn : 5 < n) : Calls Tryz.prog 132 #[.string key] w (SpE ⟨0,0,E0,0⟩ w) := by
 have hs : (n : Int) ≤ 9223372036854775807 := by have := hf.hi; omega
 have hNb : 0 ≤ N ∧ N ≤ 4294967295 := by rw [← hf.num]; exact getn_bd key
 have hN0 := hNb.1
 have hN1 := hNb.2
 have r1 : IntKind.u32.wrap N = N := by rw [IntKind.wrap_u32]; omega
 have hrun := hf.run
 have HF := hQ_ hf
 have hsz := hf.size
 have hc0 := hf.bs.at_ 0 (by have := hf.lo; omega)
 rw [hf.first,Nat.zero_add] at hc0
 have hlo := hf.lo
 have hhi := hf.hi
 have hcap := hf.fit
 subst hy
 have hc5 : ¬ cap = 5 := by omega
 have z0 : (((n - 5 : Nat) : Int) == 0) = false := by rw [beq_eq_false_iff_ne]; omega
 have z1 : decide (0 < n - 5) = true := by simp; omega
 have d : decide ((n : Int) < 5) = false := by simp; omega
 have d2 : decide ((37 : Int) < (n : Int)) = false := by simp; omega
 clear hf hNb
 go_enter Tryz.func132,Tryz.ntmps132
 go_wp2_with (first
  | ((with_reducible refine pick (some 25) ?_); refine wpList_conv rfl 9 39 _ rfl (.string key) (.slice (some ⟨w.heap.size,0,none⟩) n cap) rfl hrun ?_)
  | (go_at_call 157; (with_reducible refine HF.out.get.mono ?_); rintro e w2 ⟨rfl,rfl⟩))
 refine bodyPost_ret (results_tmp4 rfl _ _ _) rfl ?_
 exact ⟨rfl,HF.out.below⟩
theorem split_e5a (key : ByteArray) (w w1 : World) (n cap : Nat) (N y : Int) (hf : Fr key w w1 n cap N y) (hy : y = 69) (hn : n = 5) (hc : cap = 5) : Calls Tryz.prog 132 #[.string key] w (SpE ⟨0,0,E0,0⟩ w) := by
 have hs : (n : Int) ≤ 9223372036854775807 := by have := hf.hi; omega
 have hNb : 0 ≤ N ∧ N ≤ 4294967295 := by rw [← hf.num]; exact getn_bd key
 have hN0 := hNb.1
 have hN1 := hNb.2
 have r1 : IntKind.u32.wrap N = N := by rw [IntKind.wrap_u32]; omega
 have hrun := hf.run
 have HF := hQ_ hf
 have hsz := hf.size
 have hc0 := hf.bs.at_ 0 (by have := hf.lo; omega)
 rw [hf.first,Nat.zero_add] at hc0
 have hlo := hf.lo
 have hhi := hf.hi
 have hcap := hf.fit
 subst hy
 subst hn
 subst hc
 have d : decide ((5 : Int) < 5) = false := by simp
 have d2 : decide ((37 : Int) < (5 : Int)) = false := by simp
 clear hf hNb
 go_enter Tryz.func132,Tryz.ntmps132
 go_wp2_with (first
  | ((with_reducible refine pick (some 25) ?_); refine wpList_conv rfl 9 39 _ rfl (.string key) (.slice (some ⟨w.heap.size,0,none⟩) 5 5) rfl hrun ?_)
  | (go_at_call 157; (with_reducible refine HF.out.get.mono ?_); rintro e w2 ⟨rfl,rfl⟩))
 refine bodyPost_ret (results_tmp4 rfl _ _ _) rfl ?_
 exact ⟨rfl,HF.out.below⟩
theorem split_e5b (key : ByteArray) (w w1 : World) (n cap : Nat) (N y : Int) (hf : Fr key w w1 n cap N y) (hy : y = 69) (hn : n = 5) (hc : cap ≠ 5) : Calls Tryz.prog 132 #[.string key] w (SpE ⟨0,0,E0,0⟩ w) := by
 have hs : (n : Int) ≤ 9223372036854775807 := by have := hf.hi; omega
 have hNb : 0 ≤ N ∧ N ≤ 4294967295 := by rw [← hf.num]; exact getn_bd key
 have hN0 := hNb.1
 have hN1 := hNb.2
 have r1 : IntKind.u32.wrap N = N := by rw [IntKind.wrap_u32]; omega
 have hrun := hf.run
 have HF := hQ_ hf
 have hsz := hf.size
 have hc0 := hf.bs.at_ 0 (by have := hf.lo; omega)
 rw [hf.first,Nat.zero_add] at hc0
 have hlo := hf.lo
 have hhi := hf.hi
 have hcap := hf.fit
 subst hy
 subst hn
 have d : decide ((5 : Int) < 5) = false := by simp
 have d2 : decide ((37 : Int) < (5 : Int)) = false := by simp
 clear hf hNb
 go_enter Tryz.func132,Tryz.ntmps132
 go_wp2_with (first
  | ((with_reducible refine pick (some 25) ?_); refine wpList_conv rfl 9 39 _ rfl (.string key) (.slice (some ⟨w.heap.size,0,none⟩) 5 cap) rfl hrun ?_)
  | (go_at_call 157; (with_reducible refine HF.out.get.mono ?_); rintro e w2 ⟨rfl,rfl⟩))
 refine bodyPost_ret (results_tmp4 rfl _ _ _) rfl ?_
 exact ⟨rfl,HF.out.below⟩
theorem split_e6 (key : ByteArray) (w w1 : World) (n cap : Nat) (N y : Int) (hf : Fr key w w1 n cap N y) (hy : y = 69) (hn : 5 < n) : Calls Tryz.prog 132 #[.string key] w (SpE ⟨69,N,key.extract 5 n,0⟩ w) := by
 have hs : (n : Int) ≤ 9223372036854775807 := by have := hf.hi; omega
 have hNb : 0 ≤ N ∧ N ≤ 4294967295 := by rw [← hf.num]; exact getn_bd key
 have hN0 := hNb.1
 have hN1 := hNb.2
 have r1 : IntKind.u32.wrap N = N := by rw [IntKind.wrap_u32]; omega
 have hrun := hf.run
 have HF := hQ_ hf
 have hsz := hf.size
 have hc0 := hf.bs.at_ 0 (by have := hf.lo; omega)
 rw [hf.first,Nat.zero_add] at hc0
 have hlo := hf.lo
 have hhi := hf.hi
 have hcap := hf.fit
 subst hy
 have hc5 : ¬ cap = 5 := by omega
 have z0 : (((n - 5 : Nat) : Int) == 0) = false := by rw [beq_eq_false_iff_ne]; omega
 have z1 : decide (0 < n - 5) = true := by simp; omega
 have hb := (hf.bs.sub 5 (n - 5) (by omega)).below ((Below.refl _ _).drew)
 have hcv := hb.str_ (P := Tryz.prog) (c := cap - 5) 39 9 Tryz.underlying39 Tryz.underlying5 Tryz.underlying9
 rw [rest_txt hf.size,Nat.zero_add] at hcv
 have HBD := hQ_ (hf.below.drew)
 clear hb
 have d : decide ((n : Int) < 5) = false := by simp; omega
 have d2 : decide ((37 : Int) < (n : Int)) = false := by simp; omega
 clear hf hNb
 go_enter Tryz.func132,Tryz.ntmps132
 go_wp2_with (first
  | ((with_reducible refine pick (some 25) ?_); refine wpList_conv rfl 9 39 _ rfl (.string key) (.slice (some ⟨w.heap.size,0,none⟩) n cap) rfl hrun ?_)
  | (go_at_call 157; (with_reducible refine HF.out.get.mono ?_); rintro e w2 ⟨rfl,rfl⟩))
 refine lit_drew (by kernel_rfl) (by kernel_rfl) ?_
 refine still_val (.int .u8 69) (by kernel_rfl) (by kernel_rfl) ?_
 refine still_val (.int .u32 N) (by kernel_rfl) (by kernel_rfl) ?_
 refine still_val (.slice (some ⟨w.heap.size,5,none⟩) (n - 5) (cap - 5)) (by kernel_rfl) (by kernel_rfl) ?_
 refine still_val (.string (key.extract 5 n)) (by kernel_rfl) (still_conv (u := .slice (some ⟨w.heap.size,5,none⟩) (n - 5) (cap - 5)) rfl (by kernel_rfl) hcv) ?_
 refine still_val (.int .u8 69) (by kernel_rfl) (by kernel_rfl) ?_
 refine still_val (.int .u32 N) (by kernel_rfl) (by kernel_rfl) ?_
 refine still_val (.string (key.extract 5 n)) (by kernel_rfl) (by kernel_rfl) ?_
 refine still_val (.int .i64 0) (by kernel_rfl) (by kernel_rfl) ?_
 refine still_end ?_
 simp only [pZ_]
 go_wp2_with fail
 refine bodyPost_ret (results_tmp4 rfl _ _ _) rfl ?_
 exact ⟨rfl,HBD.out⟩
theorem split_d5a (key : ByteArray) (w w1 : World) (n cap : Nat) (N y : Int) (hf : Fr key w w1 n cap N y) (hy : y = 68) (hn : n = 5) (hc : cap = 5) : Calls Tryz.prog 132 #[.string key] w (SpE ⟨0,0,E0,0⟩ w) := by
 have hs : (n : Int) ≤ 9223372036854775807 := by have := hf.hi; omega
 have hNb : 0 ≤ N ∧ N ≤ 4294967295 := by rw [← hf.num]; exact getn_bd key
 have hN0 := hNb.1
 have hN1 := hNb.2
 have r1 : IntKind.u32.wrap N = N := by rw [IntKind.wrap_u32]; omega
 have hrun := hf.run
 have HF := hQ_ hf
 have hsz := hf.size
 have hc0 := hf.bs.at_ 0 (by have := hf.lo; omega)
 rw [hf.first,Nat.zero_add] at hc0
 have hlo := hf.lo
 have hhi := hf.hi
 have hcap := hf.fit
 subst hy
 subst hn
 subst hc
 have d : decide ((5 : Int) < 5) = false := by simp
 have d2 : decide ((37 : Int) < (5 : Int)) = false := by simp
 clear hf hNb
 go_enter Tryz.func132,Tryz.ntmps132
 go_wp2_with (first
  | ((with_reducible refine pick (some 25) ?_); refine wpList_conv rfl 9 39 _ rfl (.string key) (.slice (some ⟨w.heap.size,0,none⟩) 5 5) rfl hrun ?_)
  | (go_at_call 157; (with_reducible refine HF.out.get.mono ?_); rintro e w2 ⟨rfl,rfl⟩))
 refine bodyPost_ret (results_tmp4 rfl _ _ _) rfl ?_
 exact ⟨rfl,HF.out.below⟩
theorem split_d5b (key : ByteArray) (w w1 : World) (n cap : Nat) (N y : Int) (hf : Fr key w w1 n cap N y) (hy : y = 68) (hn : n = 5) (hc : cap ≠ 5) : Calls Tryz.prog 132 #[.string key] w (SpE ⟨0,0,E0,0⟩ w) := by
 have hs : (n : Int) ≤ 9223372036854775807 := by have := hf.hi; omega
 have hNb : 0 ≤ N ∧ N ≤ 4294967295 := by rw [← hf.num]; exact getn_bd key
 have hN0 := hNb.1
 have hN1 := hNb.2
 have r1 : IntKind.u32.wrap N = N := by rw [IntKind.wrap_u32]; omega
 have hrun := hf.run
 have HF := hQ_ hf
 have hsz := hf.size
 have hc0 := hf.bs.at_ 0 (by have := hf.lo; omega)
 rw [hf.first,Nat.zero_add] at hc0
 have hlo := hf.lo
 have hhi := hf.hi
 have hcap := hf.fit
 subst hy
 subst hn
 have d : decide ((5 : Int) < 5) = false := by simp
 have d2 : decide ((37 : Int) < (5 : Int)) = false := by simp
 clear hf hNb
 go_enter Tryz.func132,Tryz.ntmps132
 go_wp2_with (first
  | ((with_reducible refine pick (some 25) ?_); refine wpList_conv rfl 9 39 _ rfl (.string key) (.slice (some ⟨w.heap.size,0,none⟩) 5 cap) rfl hrun ?_)
  | (go_at_call 157; (with_reducible refine HF.out.get.mono ?_); rintro e w2 ⟨rfl,rfl⟩))
 refine bodyPost_ret (results_tmp4 rfl _ _ _) rfl ?_
 exact ⟨rfl,HF.out.below⟩
theorem split_d6 (key : ByteArray) (w w1 : World) (n cap : Nat) (N y : Int) (hf : Fr key w w1 n cap N y) (hy : y = 68) (hn : 5 < n) (h7 : n ≠ 7) : Calls Tryz.prog 132 #[.string key] w (SpE ⟨0,0,E0,0⟩ w) := by
 have hs : (n : Int) ≤ 9223372036854775807 := by have := hf.hi; omega
 have hNb : 0 ≤ N ∧ N ≤ 4294967295 := by rw [← hf.num]; exact getn_bd key
 have hN0 := hNb.1
 have hN1 := hNb.2
 have r1 : IntKind.u32.wrap N = N := by rw [IntKind.wrap_u32]; omega
 have hrun := hf.run
 have HF := hQ_ hf
 have hsz := hf.size
 have hc0 := hf.bs.at_ 0 (by have := hf.lo; omega)
 rw [hf.first,Nat.zero_add] at hc0
 have hlo := hf.lo
 have hhi := hf.hi
 have hcap := hf.fit
 subst hy
 have hc5 : ¬ cap = 5 := by omega
 have z0 : (((n - 5 : Nat) : Int) == 0) = false := by rw [beq_eq_false_iff_ne]; omega
 have z1 : decide (0 < n - 5) = true := by simp; omega
 have z2 : (((n - 5 : Nat) : Int) == 2) = false := by rw [beq_eq_false_iff_ne]; omega
 have d : decide ((n : Int) < 5) = false := by simp; omega
 have d2 : decide ((37 : Int) < (n : Int)) = false := by simp; omega
 clear hf hNb
 go_enter Tryz.func132,Tryz.ntmps132
 go_wp2_with (first
  | ((with_reducible refine pick (some 25) ?_); refine wpList_conv rfl 9 39 _ rfl (.string key) (.slice (some ⟨w.heap.size,0,none⟩) n cap) rfl hrun ?_)
  | (go_at_call 157; (with_reducible refine HF.out.get.mono ?_); rintro e w2 ⟨rfl,rfl⟩))
 refine bodyPost_ret (results_tmp4 rfl _ _ _) rfl ?_
 exact ⟨rfl,HF.out.below⟩
theorem split_d7 (key : ByteArray) (w w1 : World) (n cap : Nat) (N y : Int) (hf : Fr key w w1 n cap N y) (hy : y = 68) (h7 : n = 7) : Calls Tryz.prog 132 #[.string key] w (SpE ⟨68,N,E0,256 * (txt key).getD 5 0 + (txt key).getD 6 0⟩ w) := by
 have hs : (n : Int) ≤ 9223372036854775807 := by have := hf.hi; omega
 have hNb : 0 ≤ N ∧ N ≤ 4294967295 := by rw [← hf.num]; exact getn_bd key
 have hN0 := hNb.1
 have hN1 := hNb.2
 have r1 : IntKind.u32.wrap N = N := by rw [IntKind.wrap_u32]; omega
 have hrun := hf.run
 have HF := hQ_ hf
 have hsz := hf.size
 have hc0 := hf.bs.at_ 0 (by have := hf.lo; omega)
 rw [hf.first,Nat.zero_add] at hc0
 have hlo := hf.lo
 have hhi := hf.hi
 have hcap := hf.fit
 subst hy
 subst h7
 have hc5 : ¬ cap = 5 := by omega
 have hb := hf.bs.sub 5 2 (by omega)
 have hl2 : ((txt key).drop 5).length = 2 := by rw [List.length_drop,txt_len]; omega
 rw [List.take_of_length_le (by omega),Nat.zero_add] at hb
 have hgo := g_ok ((txt key).drop 5) 0 2 (by omega) (by rw [show width 2 = 2 from rfl]; omega)
 have hget := get_calls (some ⟨w.heap.size,5,none⟩) 2 (cap - 5) ((txt key).drop 5) 0 2 w1 hb (by omega) (by omega) (by omega) (by omega) (by omega)
 rw [hgo.1,hgo.2.1,hgo.2.2] at hget
 have e2 : getn ((txt key).drop 5) (Int.toNat 0) (width 2) = 256 * (txt key).getD 5 0 + (txt key).getD 6 0 := two_bytes hf.size
 have hbb : 0 ≤ 256 * (txt key).getD 5 0 + (txt key).getD 6 0 ∧ 256 * (txt key).getD 5 0 + (txt key).getD 6 0 ≤ 65535 := by
  have a := hf.bs.bd 5
  have b := hf.bs.bd 6
  omega
 rw [e2] at hget
 have HG2 := hQ_ hget
 generalize 256 * (txt key).getD 5 0 + (txt key).getD 6 0 = M at HG2 hbb ⊢
 have hb0 := hbb.1
 have hb1 := hbb.2
 have r2 : IntKind.i64.wrap M = M := by rw [IntKind.wrap_i64]; omega
 clear hb hl2 hgo hget e2 hbb
 have d : decide ((7 : Int) < 5) = false := by simp
 have d2 : decide ((37 : Int) < (7 : Int)) = false := by simp
 clear hf hNb
 go_enter Tryz.func132,Tryz.ntmps132
 go_wp2_with (first
  | ((with_reducible refine pick (some 25) ?_); refine wpList_conv rfl 9 39 _ rfl (.string key) (.slice (some ⟨w.heap.size,0,none⟩) 7 cap) rfl hrun ?_)
  | (go_at_call 157; (with_reducible refine HF.out.get.mono ?_); rintro e w2 ⟨rfl,rfl⟩)
  | (go_at_call 157; (with_reducible refine HG2.out.mono ?_); rintro e w2 ⟨rfl,rfl⟩))
 refine bodyPost_ret (results_tmp4 rfl _ _ _) rfl ?_
 exact ⟨rfl,HF.out.below⟩
theorem split_o5a (key : ByteArray) (w w1 : World) (n cap : Nat) (N y : Int) (hf : Fr key w w1 n cap N y) (hy : y ≠ 73 ∧ y ≠ 69 ∧ y ≠ 68) (hn : n = 5) (hc : cap = 5) : Calls Tryz.prog 132 #[.string key] w (SpE ⟨0,0,E0,0⟩ w) := by
 have hs : (n : Int) ≤ 9223372036854775807 := by have := hf.hi; omega
 have hNb : 0 ≤ N ∧ N ≤ 4294967295 := by rw [← hf.num]; exact getn_bd key
 have hN0 := hNb.1
 have hN1 := hNb.2
 have r1 : IntKind.u32.wrap N = N := by rw [IntKind.wrap_u32]; omega
 have hrun := hf.run
 have HF := hQ_ hf
 have hsz := hf.size
 have hc0 := hf.bs.at_ 0 (by have := hf.lo; omega)
 rw [hf.first,Nat.zero_add] at hc0
 have hlo := hf.lo
 have hhi := hf.hi
 have hcap := hf.fit
 have t1 : (y == 73) = false := by rw [beq_eq_false_iff_ne]; omega
 have t2 : (y == 69) = false := by rw [beq_eq_false_iff_ne]; omega
 have t3 : (y == 68) = false := by rw [beq_eq_false_iff_ne]; omega
 subst hn
 subst hc
 have d : decide ((5 : Int) < 5) = false := by simp
 have d2 : decide ((37 : Int) < (5 : Int)) = false := by simp
 clear hf hNb
 go_enter Tryz.func132,Tryz.ntmps132
 go_wp2_with (first
  | ((with_reducible refine pick (some 25) ?_); refine wpList_conv rfl 9 39 _ rfl (.string key) (.slice (some ⟨w.heap.size,0,none⟩) 5 5) rfl hrun ?_)
  | (go_at_call 157; (with_reducible refine HF.out.get.mono ?_); rintro e w2 ⟨rfl,rfl⟩))
 refine bodyPost_ret (results_tmp4 rfl _ _ _) rfl ?_
 exact ⟨rfl,HF.out.below⟩
theorem split_o5b (key : ByteArray) (w w1 : World) (n cap : Nat) (N y : Int) (hf : Fr key w w1 n cap N y) (hy : y ≠ 73 ∧ y ≠ 69 ∧ y ≠ 68) (hn : n = 5) (hc : cap ≠ 5) : Calls Tryz.prog 132 #[.string key] w (SpE ⟨0,0,E0,0⟩ w) := by
 have hs : (n : Int) ≤ 9223372036854775807 := by have := hf.hi; omega
 have hNb : 0 ≤ N ∧ N ≤ 4294967295 := by rw [← hf.num]; exact getn_bd key
 have hN0 := hNb.1
 have hN1 := hNb.2
 have r1 : IntKind.u32.wrap N = N := by rw [IntKind.wrap_u32]; omega
 have hrun := hf.run
 have HF := hQ_ hf
 have hsz := hf.size
 have hc0 := hf.bs.at_ 0 (by have := hf.lo; omega)
 rw [hf.first,Nat.zero_add] at hc0
 have hlo := hf.lo
 have hhi := hf.hi
 have hcap := hf.fit
 have t1 : (y == 73) = false := by rw [beq_eq_false_iff_ne]; omega
 have t2 : (y == 69) = false := by rw [beq_eq_false_iff_ne]; omega
 have t3 : (y == 68) = false := by rw [beq_eq_false_iff_ne]; omega
 subst hn
 have d : decide ((5 : Int) < 5) = false := by simp
 have d2 : decide ((37 : Int) < (5 : Int)) = false := by simp
 clear hf hNb
 go_enter Tryz.func132,Tryz.ntmps132
 go_wp2_with (first
  | ((with_reducible refine pick (some 25) ?_); refine wpList_conv rfl 9 39 _ rfl (.string key) (.slice (some ⟨w.heap.size,0,none⟩) 5 cap) rfl hrun ?_)
  | (go_at_call 157; (with_reducible refine HF.out.get.mono ?_); rintro e w2 ⟨rfl,rfl⟩))
 refine bodyPost_ret (results_tmp4 rfl _ _ _) rfl ?_
 exact ⟨rfl,HF.out.below⟩
theorem split_o6 (key : ByteArray) (w w1 : World) (n cap : Nat) (N y : Int) (hf : Fr key w w1 n cap N y) (hy : y ≠ 73 ∧ y ≠ 69 ∧ y ≠ 68) (hn : 5 < n) : Calls Tryz.prog 132 #[.string key] w (SpE ⟨0,0,E0,0⟩ w) := by
 have hs : (n : Int) ≤ 9223372036854775807 := by have := hf.hi; omega
 have hNb : 0 ≤ N ∧ N ≤ 4294967295 := by rw [← hf.num]; exact getn_bd key
 have hN0 := hNb.1
 have hN1 := hNb.2
 have r1 : IntKind.u32.wrap N = N := by rw [IntKind.wrap_u32]; omega
 have hrun := hf.run
 have HF := hQ_ hf
 have hsz := hf.size
 have hc0 := hf.bs.at_ 0 (by have := hf.lo; omega)
 rw [hf.first,Nat.zero_add] at hc0
 have hlo := hf.lo
 have hhi := hf.hi
 have hcap := hf.fit
 have t1 : (y == 73) = false := by rw [beq_eq_false_iff_ne]; omega
 have t2 : (y == 69) = false := by rw [beq_eq_false_iff_ne]; omega
 have t3 : (y == 68) = false := by rw [beq_eq_false_iff_ne]; omega
 have hc5 : ¬ cap = 5 := by omega
 have z0 : (((n - 5 : Nat) : Int) == 0) = false := by rw [beq_eq_false_iff_ne]; omega
 have z1 : decide (0 < n - 5) = true := by simp; omega
 have d : decide ((n : Int) < 5) = false := by simp; omega
 have d2 : decide ((37 : Int) < (n : Int)) = false := by simp; omega
 clear hf hNb
 go_enter Tryz.func132,Tryz.ntmps132
 go_wp2_with (first
  | ((with_reducible refine pick (some 25) ?_); refine wpList_conv rfl 9 39 _ rfl (.string key) (.slice (some ⟨w.heap.size,0,none⟩) n cap) rfl hrun ?_)
  | (go_at_call 157; (with_reducible refine HF.out.get.mono ?_); rintro e w2 ⟨rfl,rfl⟩))
 refine bodyPost_ret (results_tmp4 rfl _ _ _) rfl ?_
 exact ⟨rfl,HF.out.below⟩
theorem split_calls : SplitOk := by
 intro key w hk
 by_cases hr : key.size < 5 ∨ 37 < key.size
 ·exact split_out key w hr hk
 obtain ⟨n,hn⟩ : ∃ n,key.size = n := ⟨_,rfl⟩
 obtain ⟨w1,cap,hf⟩ := fr_of key w n hn (by omega) (by omega)
 have hlo := hf.lo
 have hhi := hf.hi
 have hcap := hf.fit
 have hfirst := hf.first
 have hsz := hf.size
 by_cases h3 : (txt key).getD 0 0 = 73
 ·by_cases h5 : n = 5
  ·rw [sp_73 h3 (by omega)]
   by_cases hc : cap = 5
   ·exact split_i5a key w w1 n cap _ _ hf h3 h5 hc
   ·exact split_i5b key w w1 n cap _ _ hf h3 h5 hc
  ·rw [sp_none (by omega) (by omega) (by omega)]
   exact split_i6 key w w1 n cap _ _ hf h3 (by omega)
 by_cases h9 : (txt key).getD 0 0 = 69
 ·by_cases h5 : n = 5
  ·rw [sp_none (by omega) (by omega) (by omega)]
   by_cases hc : cap = 5
   ·exact split_e5a key w w1 n cap _ _ hf h9 h5 hc
   ·exact split_e5b key w w1 n cap _ _ hf h9 h5 hc
  ·rw [sp_69 h9 (by omega) (by omega),hn]
   exact split_e6 key w w1 n cap _ _ hf h9 (by omega)
 by_cases h8 : (txt key).getD 0 0 = 68
 ·by_cases h5 : n = 5
  ·rw [sp_none (by omega) (by omega) (by omega)]
   by_cases hc : cap = 5
   ·exact split_d5a key w w1 n cap _ _ hf h8 h5 hc
   ·exact split_d5b key w w1 n cap _ _ hf h8 h5 hc
  ·by_cases h7 : n = 7
   ·rw [sp_68 h8 (by omega)]
    exact split_d7 key w w1 n cap _ _ hf h8 h7
   ·rw [sp_none (by omega) (by omega) (by omega)]
    exact split_d6 key w w1 n cap _ _ hf h8 (by omega) h7
 rw [sp_none (by omega) (by omega) (by omega)]
 by_cases h5 : n = 5
 ·by_cases hc : cap = 5
  ·exact split_o5a key w w1 n cap _ _ hf ⟨h3,h9,h8⟩ h5 hc
  ·exact split_o5b key w w1 n cap _ _ hf ⟨h3,h9,h8⟩ h5 hc
 ·exact split_o6 key w w1 n cap _ _ hf ⟨h3,h9,h8⟩ (by omega)
end Go.Proofs.YtogdjbhjgbnicaaGreatDoor.KeysD
namespace Go.Proofs.YtogdjbhjgbnicaaGreatDoor.WalkKa
open Go.RowKit
open Byte PackM PackV PackG KeysM KeysR KeysS KeysL KeysC TreeM TreeR ViewM NodeM NodeG NodeK WalkM WalkF WalkKm Lst Chg TreeL ViewL WalkL WalkV Vat
open Own hiding keeps
variable {Rep : RepT}
def Small (Rep : RepT) : Prop := ∀ ⦃w v s S D⦄,Rep w v s S D → VsB s
def LoadV (L : List Pr) (ino : Int) : Value := .tuple #[.agg #[.int .u8 (loadM L ino).1.k,.int .u32 (loadM L ino).1.l,.int .u32 (loadM L ino).1.s,.int .u32 (loadM L ino).1.p],.bool (loadM L ino).2]
theorem ki_size (ino : Int) : (kI ino).size ≤ 100000 := by unfold kI; rw [ks_size]; omega
theorem ke_size (dir : Int) (name : ByteArray) : (kE dir name).size ≤ 100000 := by
 unfold kE
 split
 ·decide
 ·rw [ByteArray.size_append,ks_size]; omega
theorem loadv_none {L : List Pr} {ino : Int} (h : getL (kI ino) L = none) (h1 : ino ≠ 1) : LoadV L ino = .tuple #[.agg #[.int .u8 0,.int .u32 0,.int .u32 0,.int .u32 0],.bool false] := by
 unfold LoadV
 rw [load_none h,if_neg h1]
 rfl
theorem loadv_root {L : List Pr} (h : getL (kI 1) L = none) : LoadV L 1 = .tuple #[.agg #[.int .u8 2,.int .u32 2,.int .u32 0,.int .u32 1],.bool true] := by
 unfold LoadV
 rw [load_none h,if_pos rfl]
theorem loadv_some {L : List Pr} {ino : Int} {q : Pr} (h : getL (kI ino) L = some q) : LoadV L ino = GetV q.value := by
 unfold LoadV GetV
 rw [load_some h]
 cases gok q.value <;> rfl
theorem getv_parts (t : ByteArray) : ∃ (k l z p : Int) (b : Bool),GetV t = .tuple #[.agg #[.int .u8 k,.int .u32 l,.int .u32 z,.int .u32 p],.bool b] := by
 unfold GetV
 split
 ·exact ⟨_,_,_,_,_,rfl⟩
 ·exact ⟨_,_,_,_,_,rfl⟩
theorem load_calls (hS : Stays Rep) (hG : GetOk Rep) (hB : Small Rep) {w : World} {v : Value} {s : Vs} {S D : Nat → Prop} (ino : Int) (hr : Rep w v s S D) (hl : Lim s) (h0 : 0 ≤ ino) (h1 : ino ≤ 4294967295) :
 Calls Tryz.prog 127 #[v,.int .u32 ino] w (WalkL.Stepped Rep v (s.read (kI ino)) (LoadV s.shown ino) S D w) := by
 have R0 := hQ_ (Blk.new_ w #[.int .u8 0,.int .u32 0,.int .u32 0,.int .u32 0] 46)
 have hb0 := bX_ R0.out
 have A0 := hQ_ ((At.start hr).own hS hb0 (Nat.le_refl _) (by simp))
 have HI := hQ_ (fun w => inode_calls ino w h0 h1)
 have hok := hS.ok hr
 have hbs := hB hr
 have HS := hQ_ hS
 have HL := hQ_ hl
 have HKS : Hid ((kI ino).size ≤ 200000000000000) := hQ_ (by have := ki_size ino; omega)
 have HGet := hQ_ hG
 obtain ⟨K,hK⟩ : ∃ K,kI ino = K := ⟨_,rfl⟩
 rw [hK] at HI HKS ⊢
 clear hb0 hr hl hS hG hB
 cases hg : getL K s.shown with
 | none =>
   rw [← hK] at hg
   by_cases hi : ino = 1
   ·subst hi
    have HE := hQ_ (loadv_root hg)
    rw [hK] at hg
    have HG := hQ_ hg
    clear hok hbs hg hK
    go_enter Tryz.func127,Tryz.ntmps127
    go_wp2_with fail
    refine (HI.out _).mono ?_
    rintro e w1 ⟨rfl,hb1⟩
    have A1 := hQ_ (A0.out.below HS.out hb1)
    have R1 := hQ_ (R0.out.below hb1)
    clear hb1
    go_wp2_with fail
    refine (HGet.out K A1.out.rep HL.out HKS.out).mono ?_
    rw [HG.out]
    rintro e w2 ⟨S2,D2,rfl,hr2,st2⟩
    have A2 := hQ_ (A1.out.step HS.out hr2 st2)
    have R2 := hQ_ (A1.out.blk HS.out R1.out (.inr rfl) st2)
    clear hr2 st2
    dsimp only [GotV]
    go_wp2_with fail
    refine (root_ok _).mono ?_
    rintro e w3 ⟨rfl,hb3⟩
    have A3 := hQ_ (A2.out.below HS.out hb3)
    have R3 := hQ_ (R2.out.below hb3)
    clear hb3
    go_wp2_with ((with_reducible refine pick none ?_); refine store_blk rfl 46 _ _ rfl w.heap.size #[.int .u8 2,.int .u32 2,.int .u32 0,.int .u32 1] rfl rfl 46 _ R3.out info_ino rfl (by simp [Value.oneCell']) ?_; intro w5 hk5 hg5)
    have A5 := A3.out.stored HS.out R3.out (.inr rfl) (by decide) hg5
    exact bodyPost_ret (v := .tuple #[.agg #[.int .u8 2,.int .u32 2,.int .u32 0,.int .u32 1],.bool true]) (results_row_tmp rfl _ _ w.heap.size 46 _ (0,0) _ rfl _ rfl hk5 Tryz.underlying46 rfl info_ino) rfl ⟨S2,D2,by rw [HE.out],A5.rep,A5.st⟩
   ·have HE := hQ_ (loadv_none hg hi)
    rw [hK] at hg
    have HG := hQ_ hg
    have d1 : (ino == 1) = false := by rw [beq_eq_false_iff_ne]; exact hi
    have HX := hQ_ (fun w => get_ok ⟨#[]⟩ w (by decide))
    unfold GetE at HX
    rw [getv_no (t := ⟨#[]⟩) (by decide)] at HX
    clear hok hbs hg hK hi
    go_enter Tryz.func127,Tryz.ntmps127
    go_wp2_with fail
    refine (HI.out _).mono ?_
    rintro e w1 ⟨rfl,hb1⟩
    have A1 := hQ_ (A0.out.below HS.out hb1)
    have R1 := hQ_ (R0.out.below hb1)
    clear hb1
    go_wp2_with fail
    refine (HGet.out K A1.out.rep HL.out HKS.out).mono ?_
    rw [HG.out]
    rintro e w2 ⟨S2,D2,rfl,hr2,st2⟩
    have A2 := hQ_ (A1.out.step HS.out hr2 st2)
    have R2 := hQ_ (A1.out.blk HS.out R1.out (.inr rfl) st2)
    clear hr2 st2
    dsimp only [GotV]
    go_wp2_with fail
    refine (HX.out _).mono ?_
    rintro e w3 ⟨rfl,hb3⟩
    have A3 := hQ_ (A2.out.below HS.out hb3)
    have R3 := hQ_ (R2.out.below hb3)
    clear hb3
    go_wp2_with ((with_reducible refine pick none ?_); refine store_blk rfl 46 _ _ rfl w.heap.size #[.int .u8 0,.int .u32 0,.int .u32 0,.int .u32 0] rfl rfl 46 _ R3.out info_ino rfl (by simp [Value.oneCell']) ?_; intro w5 hk5 hg5)
    have A5 := A3.out.stored HS.out R3.out (.inr rfl) (by decide) hg5
    exact bodyPost_ret (v := .tuple #[.agg #[.int .u8 0,.int .u32 0,.int .u32 0,.int .u32 0],.bool false]) (results_row_tmp rfl _ _ w.heap.size 46 _ (0,0) _ rfl _ rfl hk5 Tryz.underlying46 rfl info_ino) rfl ⟨S2,D2,by rw [HE.out],A5.rep,A5.st⟩
 | some q =>
   have hq := hbs.shown hok (get_in hg)
   rw [← hK] at hg
   have hE := loadv_some hg
   rw [hK] at hg
   have HG := hQ_ hg
   have HX := hQ_ (fun w => get_ok q.value w (by unfold maxLen; omega))
   unfold GetE at HX
   obtain ⟨xk,xl,xz,xp,xb,hv⟩ := getv_parts q.value
   rw [hv] at HX hE
   have HE := hQ_ hE
   obtain ⟨qk,qv,qg⟩ := q
   dsimp only at HX hq
   clear hok hbs hg hK hE hv
   go_enter Tryz.func127,Tryz.ntmps127
   go_wp2_with fail
   refine (HI.out _).mono ?_
   rintro e w1 ⟨rfl,hb1⟩
   have A1 := hQ_ (A0.out.below HS.out hb1)
   have R1 := hQ_ (R0.out.below hb1)
   clear hb1
   go_wp2_with fail
   refine (HGet.out K A1.out.rep HL.out HKS.out).mono ?_
   rw [HG.out]
   rintro e w2 ⟨S2,D2,rfl,hr2,st2⟩
   have A2 := hQ_ (A1.out.step HS.out hr2 st2)
   have R2 := hQ_ (A1.out.blk HS.out R1.out (.inr rfl) st2)
   clear hr2 st2
   dsimp only [GotV]
   go_wp2_with fail
   refine (HX.out _).mono ?_
   rintro e w3 ⟨rfl,hb3⟩
   have A3 := hQ_ (A2.out.below HS.out hb3)
   have R3 := hQ_ (R2.out.below hb3)
   clear hb3
   go_wp2_with ((with_reducible refine pick none ?_); refine store_blk rfl 46 _ _ rfl w.heap.size #[.int .u8 xk,.int .u32 xl,.int .u32 xz,.int .u32 xp] rfl rfl 46 _ R3.out info_ino rfl (by simp [Value.oneCell']) ?_; intro w5 hk5 hg5)
   have A5 := A3.out.stored HS.out R3.out (.inr rfl) (by decide) hg5
   exact bodyPost_ret (v := .tuple #[.agg #[.int .u8 xk,.int .u32 xl,.int .u32 xz,.int .u32 xp],.bool xb]) (results_row_tmp rfl _ _ w.heap.size 46 _ (0,0) _ rfl _ rfl hk5 Tryz.underlying46 rfl info_ino) rfl ⟨S2,D2,by rw [HE.out],A5.rep,A5.st⟩
theorem nput_size (k l z p : Int) : (nput k l z p).size ≤ 1000 := by
 unfold nput
 rw [str_size]
 simp [nb,low_len]
structure InvS (Rep : RepT) (w : World) (v : Value) (s : Vs) (S D : Nat → Prop) (k l z p : Int) (u : World) : Prop where
 at_ : At Rep w S D (fun b => False ∨ b = w.heap.size) u v s S D
 blk : Blk u w.heap.size #[.int .u8 k,.int .u32 l,.int .u32 z,.int .u32 p] 46
theorem invs_step {w u u' : World} {v : Value} {s : Vs} {S D : Nat → Prop} {k l z p : Int} (hS : Hid (Stays Rep)) (J : Hid (InvS Rep w v s S D k l z p u)) (hb : Below u.heap.size u u') : Hid (InvS Rep w v s S D k l z p u') := hQ_ ⟨J.out.1.below hS.out hb,J.out.2.below hb⟩
theorem invs_cells {w u : World} {v : Value} {s : Vs} {S D : Nat → Prop} {k l z p : Int} (J : Hid (InvS Rep w v s S D k l z p u)) : u.cell? ⟨w.heap.size,0,none⟩ = some (.int .u8 k) ∧ u.cell? ⟨w.heap.size,1,none⟩ = some (.int .u32 l) ∧ u.cell? ⟨w.heap.size,2,none⟩ = some (.int .u32 z) ∧ u.cell? ⟨w.heap.size,3,none⟩ = some (.int .u32 p) := ⟨J.out.2.cell 0,J.out.2.cell 1,J.out.2.cell 2,J.out.2.cell 3⟩
theorem save_ok (hS : Stays Rep) (hX : ViewL.SetOk Rep) : SaveOk Rep := by
 intro w v s S D ino k l z p hr hl h0 h1 hi
 have A0 := hQ_ (At.start hr)
 have HI := hQ_ (fun w => inode_calls ino w h0 h1)
 have HP := hQ_ (fun w => put_ok k l z p w hi.k0 hi.k1 hi.l0 hi.l1 hi.s0 hi.s1 hi.p0 hi.p1)
 have HKS : Hid ((kI ino).size ≤ 200000000000000) := hQ_ (by have := ki_size ino; omega)
 have HVS : Hid ((nput k l z p).size ≤ 200000000000000) := hQ_ (by have := nput_size k l z p; omega)
 generalize kI ino = K at *
 generalize nput k l z p = V at *
 have HB0 := (Below.refl w.heap.size w).alloc (Nat.le_refl _) (.cells #[.int .u8 k,.int .u32 l,.int .u32 z,.int .u32 p] 46)
 have A1 := A0.out.own hS HB0 (Nat.le_refl _) (by simp)
 have R1 := Blk.new_ w #[.int .u8 k,.int .u32 l,.int .u32 z,.int .u32 p] 46
 have J0 : Hid (InvS Rep w v s S D k l z p (w.alloc (.cells #[.int .u8 k,.int .u32 l,.int .u32 z,.int .u32 p] 46)).drew) := hQ_ ⟨A1.below hS ((Below.refl _ _).drew),R1.drew⟩
 obtain ⟨c0,c1,c2,c3⟩ := invs_cells J0
 have HS := hQ_ hS
 have HXJ : Hid (∀ u,Hid (InvS Rep w v s S D k l z p u) → Calls Tryz.prog 122 #[v,.string K,.string V] u fun e w' => ∃ S' D',e = .returned (.bool (!fullW s.wr ⟨K,V,false⟩)) ∧ Rep w' v (s.write ⟨K,V,false⟩) S' D' ∧ Stp S D S' D' w w') := hQ_ (fun u J => (hX K V J.out.1.rep hl HKS.out HVS.out).mono (by
  rintro e w' ⟨S',D',e1,h1,h2⟩
  exact ⟨S',D',e1,h1,(J.out.1.step HS.out h1 h2).st⟩))
 clear hr hl hS hX HB0 hi A1 R1
 go_enter Tryz.func101,Tryz.ntmps101
 go_wp2_with fail
 go_region_law (first
  | (go_simp; go_at_call 123; refine (HI.out _).mono ?_; rintro e w2 ⟨rfl,hb2⟩; have J2 := invs_step HS (by assumption) hb2; obtain ⟨d0,d1,d2,d3⟩ := invs_cells J2; clear hb2)
  | (go_simp; go_at_call 124; refine (HP.out _).mono ?_; rintro e w3 ⟨rfl,hb3⟩; have J3 := invs_step HS (by assumption) hb3; obtain ⟨e0,e1,e2,e3⟩ := invs_cells J3; clear hb3)
  | (go_simp; go_at_call 122; refine (HXJ.out _ (by assumption)).mono ?_; rintro e w4 ⟨S4,D4,rfl,hr4,st4⟩; have HR4 := hQ_ hr4; have HST4 := hQ_ st4; clear hr4 st4))
 all_goals
  go_wp2_with fail
  go_ret
  exact ⟨S4,D4,rfl,HR4.out,HST4.out⟩
theorem drop_ok (hS : Stays Rep) (hX : CutOk Rep) : DropOk Rep := by
 intro w v s S D ino hr hl h0 h1
 have A0 := hQ_ (At.start hr)
 have HI := hQ_ (fun w => inode_calls ino w h0 h1)
 have HKS : Hid ((kI ino).size ≤ 200000000000000) := hQ_ (by have := ki_size ino; omega)
 generalize kI ino = K at *
 have HS := hQ_ hS
 have HL := hQ_ hl
 have HX := hQ_ hX
 clear hr hl hS hX
 go_enter Tryz.func140,Tryz.ntmps140
 go_wp2_with fail
 refine (HI.out _).mono ?_
 rintro e w2 ⟨rfl,hb2⟩
 have A2 := hQ_ (A0.out.below HS.out hb2)
 clear hb2
 go_wp2_with fail
 refine (HX.out K A2.out.rep HL.out HKS.out).mono ?_
 rintro e w4 ⟨S4,D4,rfl,hr4,st4⟩
 have A4 := hQ_ (A2.out.step HS.out hr4 st4)
 clear hr4 st4
 go_wp2_with fail
 go_ret
 exact ⟨S4,D4,rfl,A4.out.rep,A4.out.st⟩
def ChildV (L : List Pr) (dir : Int) (name : ByteArray) : Value := .tuple #[.int .u32 (childM L dir name).1,.bool (childM L dir name).2]
theorem childv_none {L : List Pr} {dir : Int} {name : ByteArray} (h : getL (kE dir name) L = none) : ChildV L dir name = .tuple #[.int .u32 0,.bool false] := by
 unfold ChildV childM
 rw [h]
theorem childv_no {L : List Pr} {dir : Int} {name : ByteArray} {q : Pr} (h : getL (kE dir name) L = some q) (h4 : q.value.size ≠ 4) : ChildV L dir name = .tuple #[.int .u32 0,.bool false] := by
 unfold ChildV childM
 rw [h]
 dsimp only
 rw [if_neg h4]
theorem childv_yes {L : List Pr} {dir : Int} {name : ByteArray} {q : Pr} (h : getL (kE dir name) L = some q) (h4 : q.value.size = 4) : ChildV L dir name = .tuple #[.int .u32 (PackM.getn (txt q.value) 0 4),.bool true] := by
 unfold ChildV childM
 rw [h]
 dsimp only
 rw [if_pos h4]
theorem child_ok (hS : Stays Rep) (hG : GetOk Rep) (hB : Small Rep) : ChildOk Rep := by
 intro w v s S D dir name hr hl h0 h1 hn
 show Calls _ _ _ _ (WalkL.Stepped Rep v (s.read (kE dir name)) (ChildV s.shown dir name) S D w)
 have A0 := hQ_ (At.start hr)
 have HI := hQ_ (fun w => entry_calls dir name w h0 h1 hn)
 have HKS : Hid ((kE dir name).size ≤ 200000000000000) := hQ_ (by have := ke_size dir name; omega)
 have hok := hS.ok hr
 have hbs := hB hr
 have HS := hQ_ hS
 have HL := hQ_ hl
 have HGet := hQ_ hG
 have hns : (name.size : Int) ≤ 100000 := by omega
 obtain ⟨K,hK⟩ : ∃ K,kE dir name = K := ⟨_,rfl⟩
 rw [hK] at HI HKS ⊢
 clear hr hl hS hG hB
 rcases (show (∃ t : ByteArray,t.size ≠ 4 ∧ t.size ≤ 200000000000000 ∧ (∃ b,GotV (getL K s.shown) = .tuple #[.string t,.bool b]) ∧ ChildV s.shown dir name = .tuple #[.int .u32 0,.bool false]) ∨ (∃ t : ByteArray,t.size = 4 ∧ GotV (getL K s.shown) = .tuple #[.string t,.bool true] ∧ ChildV s.shown dir name = .tuple #[.int .u32 (PackM.getn (txt t) 0 4),.bool true]) by
  cases hg : getL K s.shown with
  | none =>
    rw [← hK] at hg
    exact .inl ⟨⟨#[]⟩,by decide,by decide,⟨false,rfl⟩,childv_none hg⟩
  | some q =>
    have hq := hbs.shown hok (get_in hg)
    rw [← hK] at hg
    by_cases h4 : q.value.size = 4
    ·exact .inr ⟨q.value,h4,rfl,childv_yes hg h4⟩
    ·exact .inl ⟨q.value,h4,hq,⟨true,rfl⟩,childv_no hg h4⟩) with ⟨t,ht,ht2,⟨b,hv⟩,he⟩ | ⟨t,ht,hv,he⟩
 ·have HV := hQ_ hv
  have HE := hQ_ he
  have d : ((t.size : Int) != 4) = true := by simp; omega
  have hts : (t.size : Int) ≤ 9223372036854775807 := by omega
  clear hv he hok hbs hK ht ht2
  go_enter Tryz.func146,Tryz.ntmps146
  go_wp2_with fail
  refine (HI.out _).mono ?_
  rintro e w1 ⟨rfl,hb1⟩
  have A1 := hQ_ (A0.out.below HS.out hb1)
  clear hb1
  go_wp2_with fail
  refine (HGet.out K A1.out.rep HL.out HKS.out).mono ?_
  rw [HV.out]
  rintro e w2 ⟨S2,D2,rfl,hr2,st2⟩
  have A2 := hQ_ (A1.out.step HS.out hr2 st2)
  clear hr2 st2
  go_wp2_with fail
  go_ret2
  exact ⟨S2,D2,by rw [HE.out]; rfl,A2.out.rep,A2.out.st⟩
 ·have HV := hQ_ hv
  have HE := hQ_ he
  have d : ((t.size : Int) != 4) = false := by simp; omega
  have hts : (t.size : Int) ≤ 9223372036854775807 := by omega
  have hbd := get_bd (txt t) 0 4 (txt_bd t)
  have e256 : (256 : Int) ^ 4 = 4294967296 := by decide
  rw [e256] at hbd
  have hgx : gx (txt t) 0 4 = PackM.getn (txt t) 0 4 := by
   have hl := txt_len t
   have hg := g_ok (txt t) 0 4 (by omega) (by rw [show width 4 = 4 from rfl]; omega)
   rw [hg.1]
   rfl
  have HG : Hid (∀ (A : Option Addr) (c : Nat) (w : World),Bs w A 4 (txt t) → Calls Tryz.prog 157 #[.slice A (4 : Nat) c,.int .i64 0,.int .i64 4] w fun e w' => e = .returned (.tuple #[.int .u64 (PackM.getn (txt t) 0 4),.int .i64 (gi (txt t) 0 4),.int .i64 (ge (txt t) 0 4)]) ∧ w = w') := hQ_ (fun A c w hb => by
   have := get_calls A 4 c (txt t) 0 4 w hb (by omega) (by omega) (by omega) (by omega) (by omega)
   rw [hgx] at this
   exact this)
  generalize PackM.getn (txt t) 0 4 = X at *
  generalize gi (txt t) 0 4 = X2 at *
  generalize ge (txt t) 0 4 = X3 at *
  clear hv he hok hbs hK hgx e256
  go_enter Tryz.func146,Tryz.ntmps146
  go_wp2_with fail
  refine (HI.out _).mono ?_
  rintro e w1 ⟨rfl,hb1⟩
  have A1 := hQ_ (A0.out.below HS.out hb1)
  clear hb1
  go_wp2_with fail
  refine (HGet.out K A1.out.rep HL.out HKS.out).mono ?_
  rw [HV.out]
  rintro e w2 ⟨S2,D2,rfl,hr2,st2⟩
  have A2 := hQ_ (A1.out.step HS.out hr2 st2)
  clear hr2 st2
  obtain ⟨cap,w3,hrun,hf,hb3⟩ := conv_key w2 t
  rw [ht] at hrun hf
  have HF := hQ_ hf
  have A3 := hQ_ (A2.out.below HS.out hb3)
  clear hf hb3 ht
  go_wp2_with ((with_reducible refine pick (some 26) ?_); refine wpList_conv rfl 9 39 _ rfl (.string t) (.slice (some ⟨w2.heap.size,0,none⟩) 4 cap) rfl hrun ?_)
  refine (HG.out _ _ _ HF.out.bs).mono ?_
  rintro e w4 ⟨rfl,rfl⟩
  go_wp2_with fail
  go_ret2
  exact ⟨S2,D2,by rw [HE.out]; rfl,A3.out.rep,A3.out.st⟩
theorem hang_ok (hS : Stays Rep) (hX : ViewL.SetOk Rep) : HangOk Rep := by
 intro w v s S D dir name ino hr hl h0 h1 i0 i1 hn
 have A0 := hQ_ (At.start hr)
 have HI := hQ_ (fun w => entry_calls dir name w h0 h1 hn)
 have HKS : Hid ((kE dir name).size ≤ 200000000000000) := hQ_ (by have := ke_size dir name; omega)
 have HVS : Hid ((hangV ino).size ≤ 200000000000000) := hQ_ (by rw [hangV_size]; omega)
 have HP := hQ_ (fun w => put_calls none 0 0 [] 4 ino w (Bs.nil_ _ _) (by omega) (by omega) (by omega))
 rw [List.nil_append,show width 4 = 4 from rfl] at HP
 have HLN : Hid ((low 4 ino).length = 4) := hQ_ (low_len 4 ino)
 have HSTR : Hid (str (low 4 ino) = hangV ino) := hQ_ rfl
 have hns : (name.size : Int) ≤ 100000 := by omega
 generalize kE dir name = K at *
 generalize hangV ino = V at *
 generalize low 4 ino = Z at *
 have HS := hQ_ hS
 have HL := hQ_ hl
 have HX := hQ_ hX
 clear hr hl hS hX
 go_enter Tryz.func102,Tryz.ntmps102
 go_wp2_with fail
 refine (HI.out _).mono ?_
 rintro e w1 ⟨rfl,hb1⟩
 have A1 := hQ_ (A0.out.below HS.out hb1)
 clear hb1
 go_wp2_with fail
 refine (HP.out _).mono ?_
 intro e w2 hm
 obtain ⟨g,cap,rfl,ho,hb2⟩ := hm.at_ HLN.out
 have hst := ho.str_ (P := Tryz.prog) 39 9 Tryz.underlying39 Tryz.underlying5 Tryz.underlying9
 rw [HSTR.out] at hst
 have A2 := hQ_ (A1.out.below HS.out hb2)
 clear hm ho hb2
 go_wp2_with fail
 refine (HX.out K V A2.out.rep HL.out HKS.out HVS.out).mono ?_
 rintro e w4 ⟨S4,D4,rfl,hr4,st4⟩
 have A4 := hQ_ (A2.out.step HS.out hr4 st4)
 clear hr4 st4
 go_wp2_with fail
 go_ret
 exact ⟨S4,D4,rfl,A4.out.rep,A4.out.st⟩
theorem unhang_ok (hS : Stays Rep) (hX : CutOk Rep) : UnhangOk Rep := by
 intro w v s S D dir name hr hl h0 h1 hn
 have A0 := hQ_ (At.start hr)
 have HI := hQ_ (fun w => entry_calls dir name w h0 h1 hn)
 have HKS : Hid ((kE dir name).size ≤ 200000000000000) := hQ_ (by have := ke_size dir name; omega)
 have hns : (name.size : Int) ≤ 100000 := by omega
 generalize kE dir name = K at *
 have HS := hQ_ hS
 have HL := hQ_ hl
 have HX := hQ_ hX
 clear hr hl hS hX
 go_enter Tryz.func137,Tryz.ntmps137
 go_wp2_with fail
 refine (HI.out _).mono ?_
 rintro e w2 ⟨rfl,hb2⟩
 have A2 := hQ_ (A0.out.below HS.out hb2)
 clear hb2
 go_wp2_with fail
 refine (HX.out K A2.out.rep HL.out HKS.out).mono ?_
 rintro e w4 ⟨S4,D4,rfl,hr4,st4⟩
 have A4 := hQ_ (A2.out.step HS.out hr4 st4)
 clear hr4 st4
 go_wp2_with fail
 go_ret
 exact ⟨S4,D4,rfl,A4.out.rep,A4.out.st⟩
end Go.Proofs.YtogdjbhjgbnicaaGreatDoor.WalkKa
namespace Go.Proofs.YtogdjbhjgbnicaaGreatDoor.NamesR
open Go.RowKit
open Byte KeysM KeysN NamesM Lst Tx
open KeysS (key_at)
open Own (keeps)
def SplE (s : ByteArray) (w : World) (e : Ending) (w' : World) : Prop := ∃ A m c,e = .returned (.tuple #[.slice A m c,.int .i64 (spl s).2]) ∧ So txE 9 w' w.heap.size (.slice A m c) m (spl s).1 ∧ Below w.heap.size w w'
theorem SplE.of {s : ByteArray} {w w' : World} {A : Option Addr} {m c : Nat} {L : List ByteArray} {x : Int} (h : spl s = (L,x)) (ho : So txE 9 w' w.heap.size (.slice A m c) m L) (hb : Below w.heap.size w w') : SplE s w (.returned (.tuple #[.slice A m c,.int .i64 x])) w' := by
 refine ⟨A,m,c,?_,?_,hb⟩ <;> rw [h]
 exact ho
theorem So.none_ {w : World} : So txE 9 w w.heap.size (.slice none 0 0) 0 [] := So.nil_ _ _ _ _
end Go.Proofs.YtogdjbhjgbnicaaGreatDoor.NamesR
namespace Go.Proofs.YtogdjbhjgbnicaaGreatDoor.NamesS
open Go.RowKit
open Byte KeysM KeysN NamesM Lst Tx NamesR
open Own (keeps)
theorem below_drewN {B : Nat} {a w : World} (h : Below B a w) (n : Nat) : Below B a (w.drewN n) := ⟨h.os,h.tape,h.output,h.size,h.block⟩
theorem same_calls (A B : Option Addr) (n c c2 : Nat) (L : List ByteArray) (w : World) (ha : Sl txE w A n L) (hb : Sl txE w B n L) (hn : n ≤ 100000) :
 Calls Tryz.prog 39 #[.slice A n c,.slice B n c2] w fun e w' => e = .returned (.bool true) ∧ Below w.heap.size w w' := by
 have HA := hQ_ ha
 have HB := hQ_ hb
 clear ha hb
 go_enter Tryz.func39,Tryz.ntmps39
 go_wp2
 go_loopw [13] (fun i wr => ∃ k : Nat,k ≤ n ∧ i = .int .i64 k ∧ Below w.heap.size w wr) (fun i _ => n - (intOf i).toNat)
 case atStart => exact ⟨0,Nat.zero_le _,rfl,Below.refl _ _⟩
 case round =>
  obtain ⟨k,hk,rfl,hbel⟩ := hrel
  by_cases hlt : k < n
  ·obtain ⟨x,g,o,hx,rfl,hg,hcl⟩ := (HA.out.below hbel).get k hlt
   obtain ⟨y,g2,o2,hy,rfl,hg2,hcl2⟩ := (HB.out.below hbel).get k hlt
   rw [hx] at hy
   injection hy with hy
   subst hy
   have c1 := tx_cell hcl
   have c2 := tx_cell hcl2
   have q1 : (0 : Int) ≤ (k : Int) := by omega
   have q2 : (k : Int) < (n : Int) := by omega
   have HBL := hQ_ hbel
   clear hcl hcl2 hx hbel
   go_wp2_with fail
   go_quiet (fail)
   go_wp2_with fail
   go_roundw
   case rel => exact ⟨k + 1,by omega,by go_num,below_drewN HBL.out _⟩
   case measure => simp [intOf]; omega
  ·obtain rfl : k = n := by omega
   go_wp2_with fail
   go_ret
   exact ⟨rfl,hbel⟩
theorem take_at {α : Type} {L : List α} {k : Nat} {x : α} (h : L[k]? = some x) : L.take (k + 1) = L.take k ++ [x] := by
 obtain ⟨hk,he⟩ := List.getElem?_eq_some_iff.1 h
 rw [List.take_succ_eq_append_getElem hk,he]
end Go.Proofs.YtogdjbhjgbnicaaGreatDoor.NamesS
namespace Go.Proofs.YtogdjbhjgbnicaaGreatDoor.NamesL
open Go.RowKit
open Byte KeysM NamesM Lst Tx NamesR NamesS
open Own (keeps)
def Mx (w : World) : Prop := ∃ m,w.cell? ⟨0,0,none⟩ = some (.int .i64 m)
theorem Mx.below {w w' : World} (h : Mx w) (hb : Below w.heap.size w w') : Mx w' := by
 obtain ⟨m,hm⟩ := h
 have hlt : 0 < w.heap.size := Classical.byContradiction fun hn => by
  have h0 : w.heap[0]? = none := Array.getElem?_eq_none (by omega)
  simp [World.cell?,h0] at hm
 exact ⟨m,(hb.cell (p := ⟨0,0,none⟩) hlt).trans hm⟩
def SplitOk : Prop := ∀ (s : ByteArray) (w : World),s.size ≤ 100000 → Mx w → Calls Tryz.prog 119 #[.string s] w (SplE s w)
def UnderOk : Prop := ∀ (A B : Option Addr) (n c m c2 : Nat) (L M : List ByteArray) (w : World),Sl txE w A n L → Sl txE w B m M → n ≤ c → m ≤ c2 → n ≤ 100000 → m ≤ 100000 → Calls Tryz.prog 136 #[.slice A n c,.slice B m c2] w fun e w' => e = .returned (.bool (under L M)) ∧ Below w.heap.size w w'
theorem room_of {T : TypeId} {w : World} {base n c : Nat} {A : Option Addr} {L : List ByteArray} (h : So txE T w base (.slice A n c) n L) : n ≤ c := by
 obtain ⟨A',c',e,h1,_⟩ := So.head h
 injection e with e1 e2 e3
 omega
theorem below_lit {w : World} (cs : Array Value) (T : TypeId) : Below w.heap.size w (w.alloc (.cells cs T)) := bW_
theorem spl_small (s : ByteArray) : (spl s).1.length ≤ 16 ∧ ∀ x ∈ (spl s).1,x.size ≤ 32 := by
 unfold spl
 split
 ·exact ⟨by decide,fun x hx => by cases hx⟩
 ·split
  ·exact ⟨by decide,fun x hx => by cases hx⟩
  ·split
   ·exact ⟨by decide,fun x hx => by cases hx⟩
   ·split
    ·rename_i h
     rw [Bool.and_eq_true,decide_eq_true_eq] at h
     exact ⟨h.2,fun x hx => (name_pos (List.all_eq_true.1 h.1 x hx)).2⟩
    ·exact ⟨by decide,fun x hx => by cases hx⟩
theorem under_no {L M : List ByteArray} (h : ¬ L.length < M.length) : under L M = false := by unfold under; rw [decide_eq_false h]; rfl
theorem under_yes {L M : List ByteArray} (h : L.length < M.length) : under L M = decide (M.take L.length = L) := by unfold under; rw [decide_eq_true h]; rfl
end Go.Proofs.YtogdjbhjgbnicaaGreatDoor.NamesL
namespace Go.Proofs.YtogdjbhjgbnicaaGreatDoor.NamesKm
open Byte PackM KeysM NamesM
def ints (l : List UInt8) : List Int := l.map (fun b => (b.toNat : Int))
theorem pre_47 (b : UInt8) (l : List UInt8) : ([47] : List UInt8).isPrefixOf (b :: l) = (47 == b) := by
 simp [List.isPrefixOf]
theorem splitK_succ (sep : List UInt8) (save k : Nat) (s : List UInt8) : Lib.splitK sep save (k + 1) s = if Lib.index s sep == -1 then [s] else s.take ((Lib.index s sep).toNat + save) :: Lib.splitK sep save k (s.drop ((Lib.index s sep).toNat + sep.length)) := rfl
theorem split_ints (l : List UInt8) : (Lib.split l [47]).map ints = fields (ints l) := by
 induction l with
 | nil => rfl
 | cons b r ih =>
   show _ = fields ((b.toNat : Int) :: ints r)
   unfold fields
   by_cases h : b = 47
   ·subst h
    have hi : Lib.index (47 :: r) [47] = ((0 : Nat) : Int) := by unfold Lib.index; rw [pre_47,if_pos (by decide)]; rfl
    rw [if_pos (by decide),← ih]
    unfold Lib.split
    rw [Lib.count_hit (by decide) hi,Nat.add_comm,splitK_succ,hi,if_neg (by decide)]
    rfl
   ·have hb : ¬ (b.toNat : Int) = 47 := by
     intro e
     apply h
     apply UInt8.toNat_inj.1
     show b.toNat = 47
     omega
    have hp : (47 == b) = false := by rw [beq_eq_false_iff_ne]; exact fun e => h e.symm
    rw [if_neg hb,← ih]
    rcases Lib.index_spec r [47] with ⟨hi,_⟩ | ⟨i,hi,_⟩
    ·have hi2 : Lib.index (b :: r) [47] = -1 := by unfold Lib.index; rw [pre_47,hp,hi]; rfl
     unfold Lib.split
     rw [Lib.count_miss hi,Lib.count_miss hi2]
     rfl
    ·have hi2 : Lib.index (b :: r) [47] = ((i + 1 : Nat) : Int) := by
      unfold Lib.index
      rw [pre_47,hp,hi]
      have : ((i : Int) == -1) = false := by rw [beq_eq_false_iff_ne]; omega
      simp [this]
     unfold Lib.split
     rw [Lib.count_hit (by decide) hi,Lib.count_hit (by decide) hi2]
     have e1 : (b :: r).drop (i + 1 + ([47] : List UInt8).length) = r.drop (i + ([47] : List UInt8).length) := by simp
     rw [e1,Nat.add_comm 1,splitK_succ,splitK_succ,hi,hi2]
     have q1 : ¬ (((i : Nat) : Int) == -1) = true := by simp
     have q2 : ¬ (((i + 1 : Nat) : Int) == -1) = true := by simp; omega
     rw [if_neg q1,if_neg q2]
     simp only [Int.toNat_natCast,Nat.add_zero,List.map_cons,List.take_succ_cons]
     rw [e1]
     rfl
def sl : ByteArray := ⟨#[47]⟩
theorem txt_ints (s : ByteArray) : txt s = ints s.data.toList := rfl
theorem txt_rest (s : ByteArray) : txt (s.extract 1 s.size) = (txt s).drop 1 := by
 unfold txt
 rw [ByteArray.data_extract]
 simp [List.map_take,List.map_drop]
 refine List.take_of_length_le ?_
 rw [List.length_tail,List.length_map]
 exact Nat.le_refl _
theorem names_split (s : ByteArray) : Lib.splitB sl 0 (Lib.countB (s.extract 1 s.size) sl) (s.extract 1 s.size) = namesOf s := by
 have h := split_ints (s.extract 1 s.size).data.toList
 rw [← txt_ints,txt_rest] at h
 have h2 := Lib.splitB_data sl 0 (Lib.countB (s.extract 1 s.size) sl) (s.extract 1 s.size)
 have h3 : Lib.split (s.extract 1 s.size).data.toList [47] = Lib.splitK sl.data.toList 0 (Lib.countB (s.extract 1 s.size) sl) (s.extract 1 s.size).data.toList := rfl
 rw [h3,← h2,List.map_map] at h
 unfold namesOf
 rw [← h,List.map_map]
 have : ∀ x : ByteArray,(str ∘ (ints ∘ fun x => x.data.toList)) x = x := fun x => str_txt x
 rw [show (str ∘ (ints ∘ fun x : ByteArray => x.data.toList)) = id from funext this,List.map_id]
theorem split_count (l : List UInt8) : (Lib.split l [47]).length = Lib.count l [47] + 1 := by
 have key : ∀ (n : Nat) (l : List UInt8),l.length ≤ n → (Lib.splitK [47] 0 (Lib.count l [47]) l).length = Lib.count l [47] + 1 := by
  intro n
  induction n with
  | zero =>
    intro l hl
    have : l = [] := List.eq_nil_of_length_eq_zero (by omega)
    subst this
    rfl
  | succ n ih =>
    intro l hl
    rcases Lib.index_spec l [47] with ⟨hi,_⟩ | ⟨i,hi,hil,_⟩
    ·rw [Lib.count_miss hi]
     rfl
    ·have hr := Lib.index_room l [47] (by omega)
     rw [hi] at hr
     have hq : ¬ (((i : Nat) : Int) == -1) = true := by simp
     rw [Lib.count_hit (by decide) hi,Nat.add_comm 1,splitK_succ,hi,if_neg hq,List.length_cons]
     have hd : (l.drop (i + ([47] : List UInt8).length)).length ≤ n := by simp at hr ⊢; omega
     have := ih _ hd
     simp only [Int.toNat_natCast] at *
     omega
 exact key _ l (Nat.le_refl _)
theorem names_count (s : ByteArray) : Lib.countB (s.extract 1 s.size) sl + 1 = (namesOf s).length := by
 rw [← names_split]
 have h2 := congrArg List.length (Lib.splitB_data sl 0 (Lib.countB (s.extract 1 s.size) sl) (s.extract 1 s.size))
 rw [List.length_map] at h2
 rw [h2]
 exact (split_count _).symm
def jok (L : List ByteArray) : Bool := L.all nameOk && decide (L.length ≤ 16) && decide ((slashed L).length ≤ 255)
theorem jok_iff {L : List ByteArray} : jok L = true ↔ L.all nameOk = true ∧ L.length ≤ 16 ∧ (slashed L).length ≤ 255 := by
 unfold jok
 simp [and_assoc]
theorem slashed_append (L M : List ByteArray) : slashed (L ++ M) = slashed L ++ slashed M := by
 unfold slashed
 rw [List.flatMap_append]
theorem jok_snoc (L : List ByteArray) (x : ByteArray) (h : jok L = true) : jok (L ++ [x]) = (nameOk x && decide (L.length + 1 ≤ 16) && decide ((slashed L).length + (1 + x.size) ≤ 255)) := by
 obtain ⟨h1,h2,h3⟩ := jok_iff.1 h
 unfold jok
 rw [List.all_append,h1,slashed_snoc]
 have : (slashed L ++ 47 :: txt x).length = (slashed L).length + (1 + x.size) := by rw [List.length_append,List.length_cons,txt_len]; omega
 rw [this,List.length_append]
 simp
theorem jok_pre {L M : List ByteArray} (h : jok (L ++ M) = true) : jok L = true := by
 obtain ⟨h1,h2,h3⟩ := jok_iff.1 h
 rw [List.all_append,Bool.and_eq_true] at h1
 rw [List.length_append] at h2
 rw [slashed_append,List.length_append] at h3
 exact jok_iff.2 ⟨h1.1,by omega,by omega⟩
theorem jok_take {L : List ByteArray} {k : Nat} (h : jok (L.take k) = false) : jok L = false := by
 cases hh : jok L with
 | false => rfl
 | true =>
   rw [← List.take_append_drop k L] at hh
   rw [jok_pre hh] at h
   cases h
theorem spl_yes {s : ByteArray} (h1 : 2 ≤ s.size) (h2 : s.size ≤ 255) (h47 : (txt s).getD 0 0 = 47) : spl s = if jok (namesOf s) then (namesOf s,0) else ([],17) := by
 have hs : slashed (namesOf s) = txt s := by rw [slashed_map,txt_names,fields_back,← txt_cons (by omega) h47]
 unfold spl jok
 rw [if_neg (by omega),if_neg (fun h => h h47),if_neg (by omega),hs,txt_len]
 have : decide (s.size ≤ 255) = true := decide_eq_true h2
 rw [this,Bool.and_true]
theorem txt_size (s : ByteArray) : (txt s).length = s.size := txt_len s
theorem slashed_bounds (L : List ByteArray) : L.length ≤ (slashed L).length ∧ ∀ x ∈ L,x.size ≤ (slashed L).length := by
 induction L with
 | nil => exact ⟨Nat.le_refl _,fun x hx => by cases hx⟩
 | cons a r ih =>
   have e : (slashed (a :: r)).length = 1 + a.size + (slashed r).length := by
    show (47 :: (txt a ++ slashed r)).length = _
    rw [List.length_cons,List.length_append,txt_len]
    omega
   rw [e,List.length_cons]
   refine ⟨by omega,fun x hx => ?_⟩
   rcases List.mem_cons.1 hx with rfl | hx
   ·omega
   ·have := ih.2 x hx
    omega
theorem one_47 {s : ByteArray} (h : s.size = 1) (h47 : (txt s).getD 0 0 = 47) : s = ⟨#[47]⟩ := by
 have hl := txt_len s
 have hc := txt_cons (s := s) (by omega) h47
 have : (txt s).drop 1 = [] := List.eq_nil_of_length_eq_zero (by rw [List.length_drop]; omega)
 rw [this] at hc
 rw [← str_txt s,hc]
 rfl
end Go.Proofs.YtogdjbhjgbnicaaGreatDoor.NamesKm
namespace Go.Proofs.YtogdjbhjgbnicaaGreatDoor.NamesY
open Go.Proofs
def splitLay_ren : Go.Shelf.Ren := ⟨fun | 146 => 143 | 221 => 161 | 268 => 172 | 138 => 173 | 143 => 174 | 195 => 181 | 197 => 182 | 218 => 183 | 219 => 184 | 260 => 190 | 217 => 191 | 225 => 192 | 224 => 193 | 267 => 194 | 266 => 196 | 314 => 197 | n => n,fun | 9 => 9 | 31 => 44 | 3 => 3 | 4 => 4 | 0 => 0 | 105 => 226 | 21 => 21 | 5 => 5 | 46 => 221 | 119 => 233 | 139 => 236 | 138 => 235 | 146 => 237 | 51 => 33 | n => n,fun | 1 => 0 | 3 => 1 | 4 => 2 | n => n⟩
theorem splitLay : Go.Proofs.LaysM.n146 Tryz.prog splitLay_ren := {
 mixed := by kernel_rfl,
 f138 := Tryz.func173.trans (congrArg some (by kernel_rfl)),
 f143 := Tryz.func174.trans (congrArg some (by kernel_rfl)),
 f146 := Tryz.func143.trans (congrArg some (by kernel_rfl)),
 f195 := Tryz.func181.trans (congrArg some (by kernel_rfl)),
 f197 := Tryz.func182.trans (congrArg some (by kernel_rfl)),
 f217 := Tryz.func191.trans (congrArg some (by kernel_rfl)),
 f218 := Tryz.func183.trans (congrArg some (by kernel_rfl)),
 f219 := Tryz.func184.trans (congrArg some (by kernel_rfl)),
 f221 := Tryz.func161.trans (congrArg some (by kernel_rfl)),
 f224 := Tryz.func193.trans (congrArg some (by kernel_rfl)),
 f225 := Tryz.func192.trans (congrArg some (by kernel_rfl)),
 f260 := Tryz.func190.trans (congrArg some (by kernel_rfl)),
 f266 := Tryz.func196.trans (congrArg some (by kernel_rfl)),
 f267 := Tryz.func194.trans (congrArg some (by kernel_rfl)),
 f268 := Tryz.func172.trans (congrArg some (by kernel_rfl)),
 f314 := Tryz.func197.trans (congrArg some (by kernel_rfl)),
 t0 := Tryz.underlying0,
 a0 := Tryz.isAgg0,
 z0 := Tryz.sizeOf0,
 v0 := Tryz.zeroValue0,
 t3 := Tryz.underlying3,
 a3 := Tryz.isAgg3,
 z3 := Tryz.sizeOf3,
 v3 := Tryz.zeroValue3,
 t4 := Tryz.underlying4,
 a4 := Tryz.isAgg4,
 z4 := Tryz.sizeOf4,
 v4 := Tryz.zeroValue4,
 t5 := Tryz.underlying5,
 a5 := Tryz.isAgg5,
 z5 := Tryz.sizeOf5,
 v5 := Tryz.zeroValue5,
 t9 := Tryz.underlying9,
 a9 := Tryz.isAgg9,
 z9 := Tryz.sizeOf9,
 v9 := Tryz.zeroValue9,
 t21 := Tryz.underlying21,
 a21 := Tryz.isAgg21,
 z21 := Tryz.sizeOf21,
 v21 := Tryz.zeroValue21,
 t31 := Tryz.underlying44,
 a31 := Tryz.isAgg44,
 z31 := Tryz.sizeOf44,
 v31 := Tryz.zeroValue44,
 t46 := Tryz.underlying221,
 a46 := Tryz.isAgg221,
 z46 := Tryz.sizeOf221,
 v46 := Tryz.zeroValue221,
 t51 := Tryz.underlying33,
 a51 := Tryz.isAgg33,
 z51 := Tryz.sizeOf33,
 v51 := Tryz.zeroValue33,
 t105 := Tryz.underlying226,
 a105 := Tryz.isAgg226,
 z105 := Tryz.sizeOf226,
 v105 := Tryz.zeroValue226,
 t119 := Tryz.underlying233,
 a119 := Tryz.isAgg233,
 z119 := Tryz.sizeOf233,
 t138 := Tryz.underlying235,
 a138 := Tryz.isAgg235,
 z138 := Tryz.sizeOf235,
 v138 := Tryz.zeroValue235,
 t139 := Tryz.underlying236,
 a139 := Tryz.isAgg236,
 z139 := Tryz.sizeOf236,
 v139 := Tryz.zeroValue236,
 t146 := Tryz.underlying237,
 a146 := Tryz.isAgg237,
 z146 := Tryz.sizeOf237,
 v146 := Tryz.zeroValue237,
 g1 := by kernel_rfl,
 g3 := by kernel_rfl,
 g4 := by kernel_rfl,
 i0 := by kernel_rfl,
 i3 := by kernel_rfl,
 i4 := by kernel_rfl,
 i5 := by kernel_rfl,
 i9 := by kernel_rfl,
 i21 := by kernel_rfl,
 i31 := by kernel_rfl,
 i46 := by kernel_rfl,
 i51 := by kernel_rfl,
 i105 := by kernel_rfl,
 i138 := by kernel_rfl,
 i139 := by kernel_rfl,
 i146 := by kernel_rfl,
 m1 := by kernel_rfl,
 s1_3 := fun w h => Go.Proofs.cell_of_shapedOpen_int (zero := #[.int .i64 0]) (t := 3) h (of_decide_eq_true (by kernel_rfl)) (by kernel_rfl) rfl (by kernel_rfl) (by kernel_rfl) Tryz.underlying3,
 m3 := by kernel_rfl,
 m4 := by kernel_rfl }
def preLay_ren : Go.Shelf.Ren := ⟨fun | 99 => 142 | 206 => 160 | n => n,fun | 9 => 9 | 4 => 4 | 3 => 3 | n => n,fun | n => n⟩
theorem preLay : Go.Proofs.Lays.n99 Tryz.prog preLay_ren := {
 mixed := by kernel_rfl,
 f99 := Tryz.func142.trans (congrArg some (by kernel_rfl)),
 f206 := Tryz.func160.trans (congrArg some (by kernel_rfl)),
 t3 := Tryz.underlying3,
 a3 := Tryz.isAgg3,
 z3 := Tryz.sizeOf3,
 v3 := Tryz.zeroValue3,
 t4 := Tryz.underlying4,
 a4 := Tryz.isAgg4,
 z4 := Tryz.sizeOf4,
 v4 := Tryz.zeroValue4,
 t9 := Tryz.underlying9,
 a9 := Tryz.isAgg9,
 z9 := Tryz.sizeOf9,
 v9 := Tryz.zeroValue9 }
def eqLay_ren : Go.Shelf.Ren := ⟨fun | 193 => 159 | n => n,fun | 31 => 44 | 9 => 9 | 4 => 4 | 3 => 3 | 0 => 0 | n => n,fun | n => n⟩
theorem eqLay : Go.Proofs.Lays.n193 Tryz.prog eqLay_ren := {
 mixed := by kernel_rfl,
 f193 := Tryz.func159.trans (congrArg some (by kernel_rfl)),
 t0 := Tryz.underlying0,
 a0 := Tryz.isAgg0,
 z0 := Tryz.sizeOf0,
 v0 := Tryz.zeroValue0,
 t3 := Tryz.underlying3,
 a3 := Tryz.isAgg3,
 z3 := Tryz.sizeOf3,
 v3 := Tryz.zeroValue3,
 t4 := Tryz.underlying4,
 a4 := Tryz.isAgg4,
 z4 := Tryz.sizeOf4,
 v4 := Tryz.zeroValue4,
 t9 := Tryz.underlying9,
 a9 := Tryz.isAgg9,
 z9 := Tryz.sizeOf9,
 v9 := Tryz.zeroValue9,
 t31 := Tryz.underlying44,
 a31 := Tryz.isAgg44,
 z31 := Tryz.sizeOf44,
 v31 := Tryz.zeroValue44 }
end Go.Proofs.YtogdjbhjgbnicaaGreatDoor.NamesY
namespace Go.Proofs.YtogdjbhjgbnicaaGreatDoor.KeysU
open Go.RowKit
open Byte KeysM KeysR KeysS KeysN KeysL
theorem rune_wide (s : ByteArray) (pos : Nat) (h : pos < s.size) : 0 < (Utf8.decode s pos).2 := by
 rcases Nat.lt_or_ge (s[pos]'h).toNat 128 with q | q
 ·simp [decode_ascii s pos h q]
 ·have := (decode_high s pos h q).2
  omega
theorem get_is (s : ByteArray) (k : Nat) (h : k < s.size) : (s.get! k).toNat = (s[k]'h).toNat := by
 have : s.get! k = s[k]'h := by
  show s.get! k = _
  simp [ByteArray.get!,getElem!_pos,h]
  rfl
 rw [this]
theorem cont_high (s : ByteArray) (pos j : Nat) (h : pos < s.size) (ha : 128 ≤ (s[pos]'h).toNat) (hj : 1 ≤ j) (hw : j < (Utf8.decode s pos).2) : pos + j < s.size ∧ (s.get! (pos + j)).toNat / 64 = 2 := by
 have hn : ¬ (s.get! (pos + 0)).toNat < 128 := by rw [Nat.add_zero,get_is s pos h]; omega
 revert hw
 unfold Utf8.decode
 simp only [hn,if_false]
 repeat' split
 all_goals
  intro hw
  first
   | (exfalso; dsimp only at hw; omega)
   | (have h1 : j = 1 ∨ j = 2 ∨ j = 3 := by (dsimp only at hw; omega)
      rcases h1 with rfl | rfl | rfl <;> simp_all <;> omega)
   | (have h1 : j = 1 ∨ j = 2 := by (dsimp only at hw; omega)
      rcases h1 with rfl | rfl <;> simp_all)
   | (have h1 : j = 1 := by (dsimp only at hw; omega)
      subst h1
      simp_all)
theorem rune_step (s : ByteArray) (pos : Nat) (h : pos < s.size) (h0 : (Utf8.decode s pos).1 ≠ 0) (h1 : (Utf8.decode s pos).1 ≠ 47) (j : Nat) (hj : pos ≤ j) (hw : j < pos + (Utf8.decode s pos).2) (hs : j < s.size) : (txt s).getD j 0 ≠ 0 ∧ (txt s).getD j 0 ≠ 47 := by
 rw [key_at s j hs]
 by_cases ha : (s[pos]'h).toNat < 128
 ·rw [decode_ascii s pos h ha] at h0 h1 hw
  obtain rfl : j = pos := by dsimp only at hw; omega
  dsimp only at h0 h1
  omega
 ·rcases Nat.eq_or_lt_of_le hj with rfl | hj'
  ·omega
  ·have := (cont_high s pos (j - pos) h (by omega) (by omega) (by omega)).2
   rw [show pos + (j - pos) = j by omega,get_is s j hs] at this
   omega
theorem rune_bad (s : ByteArray) (pos : Nat) (h : pos < s.size) (h0 : (Utf8.decode s pos).1 = 0 ∨ (Utf8.decode s pos).1 = 47) : (txt s).getD pos 0 = 0 ∨ (txt s).getD pos 0 = 47 := by
 rw [key_at s pos h]
 by_cases ha : (s[pos]'h).toNat < 128
 ·rw [decode_ascii s pos h ha] at h0
  dsimp only at h0
  omega
 ·have := (decode_high s pos h (by omega)).1
  omega
theorem list_ne {s : ByteArray} (h : 0 < s.size) : ¬ s.toList = [] := by
 intro e
 have := congrArg List.length e
 rw [toList_d] at this
 have hz : s.data.toList.length = s.size := by rw [Array.length_toList]; rfl
 rw [hz] at this
 have h9 : s.size = 0 := this
 omega
theorem list_is {s : ByteArray} (l : List UInt8) (h : s.toList = l) : s = ⟨l.toArray⟩ := by
 rw [toList_d] at h
 apply ByteArray.ext
 apply Array.ext'
 rw [h]
theorem name_rest (s : ByteArray) (w : World) (h0 : 0 < s.size) (h1 : s.size ≤ 32) (h2 : (s.toList == [46]) = false) (h3 : (s.toList == [46,46]) = false) :
 Calls Tryz.prog 163 #[.string s] w fun e w' => e = .returned (.bool (nameOk s)) ∧ Below w.heap.size w w' := by
 obtain ⟨B,hB⟩ : ∃ b,nameOk s = b := ⟨_,rfl⟩
 have HBB := hQ_ hB
 rw [hB]
 clear hB
 have n1 := list_ne h0
 have n2 : s.toList.isEmpty = false := by rw [List.isEmpty_eq_false_iff]; exact n1
 have n3 : (s.toList == []) = false := by rw [beq_eq_false_iff_ne]; exact n1
 have d : decide ((32 : Int) < (s.size : Int)) = false := by simp; omega
 have d1 : decide ((s.size : Int) < 1) = false := by simp; omega
 have H2 := hQ_ h2
 have H3 := hQ_ h3
 have hb : ∀ pos,Below w.heap.size w (w.iter s pos) := fun pos => bW_
 have HB := hQ_ hb
 clear hb
 go_enter Tryz.func163,Tryz.ntmps163
 go_wp2
 go_loopw [4] (fun r w' => ∃ pos : Nat,w' = w.iter s pos ∧ Hid (∀ j,j < pos → j < s.size → (txt s).getD j 0 ≠ 0 ∧ (txt s).getD j 0 ≠ 47)) (fun _ w' => s.size - w'.iterPos w.heap.size)
 case atStart => exact ⟨0,rfl,hQ_ (fun j hj => by omega)⟩
 case round =>
  obtain ⟨pos,rfl,HK⟩ := hrel
  by_cases hp : pos < s.size
  ·have hnx : ∀ ty,(Instr.next (.pointer (some ⟨w.heap.size,0,none⟩)) true ty).run Tryz.prog (w.iter s pos) = _ := fun ty => run_next_any w s pos ty hp
   have hwd := rune_wide s pos hp
   go_wp2
   ·have hc : ((Utf8.decode s pos).1 : Int) = 0 := by assumption
    have hbad := name_bad hp (rune_bad s pos hp (.inl (by omega)))
    rw [HBB.out] at hbad
    subst hbad
    go_ret
    exact ⟨rfl,HB.out _⟩
   ·have hc : (((Utf8.decode s pos).1 : Int) == 47) = true := by assumption
    rw [beq_iff_eq] at hc
    have hbad := name_bad hp (rune_bad s pos hp (.inr (by omega)))
    rw [HBB.out] at hbad
    subst hbad
    go_ret
    exact ⟨rfl,HB.out _⟩
   ·have q1 : ¬ ((Utf8.decode s pos).1 : Int) = 0 := by assumption
    have q2 : (((Utf8.decode s pos).1 : Int) == 47) = false := by assumption
    rw [beq_eq_false_iff_ne] at q2
    go_roundw
    case rel => exact ⟨pos + (Utf8.decode s pos).2,rfl,hQ_ (fun j hj hs => (by
     rcases Nat.lt_or_ge j pos with h | h
     ·exact HK.out j h hs
     ·exact rune_step s pos hp (by omega) (by omega) j h hj hs))⟩
    case measure =>
     simp
     omega
  ·have hnx : ∀ ty,(Instr.next (.pointer (some ⟨w.heap.size,0,none⟩)) true ty).run Tryz.prog (w.iter s pos) = _ := fun ty => run_next_end w s pos ty hp
   go_wp2
   go_ret
   have hall := name_all (s := s) (fun j hj => HK.out j (by omega) hj)
   rw [HBB.out] at hall
   refine ⟨ret_bool ?_,HB.out pos⟩
   rw [hall,H2.out,H3.out]
   simp [h0,h1]
theorem name_size (s : ByteArray) (w : World) (h : s.size < 1 ∨ 32 < s.size) (hk : s.size ≤ 100000) : Calls Tryz.prog 163 #[.string s] w fun e w' => e = .returned (.bool (nameOk s)) ∧ Below w.heap.size w w' := by
 have e : nameOk s = false := by
  unfold nameOk
  rcases h with h | h
  ·have : decide (0 < s.size) = false := decide_eq_false (by omega)
   simp [this]
  ·have : decide (s.size ≤ 32) = false := decide_eq_false (by omega)
   simp [this]
 rw [e]
 rcases h with h | h
 ·have d1 : decide ((s.size : Int) < 1) = true := by simp; omega
  clear h e
  go_enter Tryz.func163,Tryz.ntmps163
  go_wp2_with fail
  go_ret
  exact ⟨rfl,Below.refl _ _⟩
 ·have d : decide ((32 : Int) < (s.size : Int)) = true := by simp; omega
  have d1 : decide ((s.size : Int) < 1) = false := by simp; omega
  clear h e
  go_enter Tryz.func163,Tryz.ntmps163
  go_wp2_with fail
  go_ret
  exact ⟨rfl,Below.refl _ _⟩
theorem name_dots (s : ByteArray) (w : World) (h : s.toList = [46] ∨ s.toList = [46,46]) : Calls Tryz.prog 163 #[.string s] w fun e w' => e = .returned (.bool (nameOk s)) ∧ Below w.heap.size w w' := by
 rcases h with h | h
 ·obtain rfl := list_is _ h
  have e : nameOk ⟨#[46]⟩ = false := by decide +kernel
  show Calls Tryz.prog 163 #[.string ⟨#[46]⟩] w fun e w' => e = .returned (.bool (nameOk ⟨#[46]⟩)) ∧ Below w.heap.size w w'
  rw [e]
  clear h e
  go_enter Tryz.func163,Tryz.ntmps163
  go_wp2_with fail
  go_ret
  exact ⟨rfl,Below.refl _ _⟩
 ·obtain rfl := list_is _ h
  have e : nameOk ⟨#[46,46]⟩ = false := by decide +kernel
  show Calls Tryz.prog 163 #[.string ⟨#[46,46]⟩] w fun e w' => e = .returned (.bool (nameOk ⟨#[46,46]⟩)) ∧ Below w.heap.size w w'
  rw [e]
  clear h e
  go_enter Tryz.func163,Tryz.ntmps163
  go_wp2_with fail
  go_ret
  exact ⟨rfl,Below.refl _ _⟩
theorem name_calls : NameOk := by
 intro s w hs
 by_cases h : s.size < 1 ∨ 32 < s.size
 ·exact name_size s w h hs
 by_cases h1 : s.toList = [46]
 ·exact name_dots s w (.inl h1)
 by_cases h2 : s.toList = [46,46]
 ·exact name_dots s w (.inr h2)
 exact name_rest s w (by omega) (by omega) (beq_eq_false_iff_ne.2 h1) (beq_eq_false_iff_ne.2 h2)
end Go.Proofs.YtogdjbhjgbnicaaGreatDoor.KeysU
namespace Go.Proofs.YtogdjbhjgbnicaaGreatDoor.NamesK
open Go.RowKit
open Byte KeysM NamesKm Lst Tx NamesR NamesL NamesY
open NamesM (spl slashed namesOf under slashed_snoc spl_no spl_15)
open Own (keeps Blk Blk.new_)
open KeysU (name_calls)
open NamesS (take_at below_drewN)
theorem ent_next : ∀ (args : Array Value) (w : World),(callFunc 162 args).run Tryz.prog w = .ok (.enter 162 args) w := fun args w => by kernel_rfl
theorem name_is {x : ByteArray} {b : Bool} (hb : nameOk x = b) (hx : x.size ≤ 100000) (w : World) : Calls Tryz.prog 163 #[.string x] w fun e w' => e = .returned (.bool b) ∧ Below w.heap.size w w' := by
 subst hb
 exact name_calls x w hx
structure Cnt (w : World) (base p q d z : Nat) : Prop where
 lo1 : base ≤ p
 lo2 : base ≤ q
 ne : p ≠ q
 deep : Blk w p #[.int .i64 (d : Int)] 3
 size : Blk w q #[.int .i64 (z : Int)] 3
theorem Cnt.below {w w' : World} {base p q d z : Nat} (h : Cnt w base p q d z) (hb : Below w.heap.size w w') : Cnt w' base p q d z := ⟨h.lo1,h.lo2,h.ne,h.deep.below hb,h.size.below hb⟩
def NextE (w : World) (e : Ending) (w' : World) : Prop := ∃ p q,e = .returned (.func (.func 162) #[] #[.pointer (some ⟨p,0,none⟩),.pointer (some ⟨q,0,none⟩)]) ∧ Cnt w' w.heap.size p q 0 0 ∧ Below w.heap.size w w'
theorem next_calls (w : World) : Calls Tryz.prog 145 #[] w (NextE w) := by
 go_enter Tryz.func145,Tryz.ntmps145
 go_wp2
 go_ret
 refine ⟨w.heap.size,w.heap.size + 1,rfl,⟨Nat.le_refl _,Nat.le_succ _,by omega,?_,?_⟩,(bW_).alloc (by simp) _⟩
 ·exact (Blk.new_ w #[.int .i64 0] 3).alloc _
 ·have := Blk.new_ (w.alloc (.cells #[.int .i64 0] 3)) #[.int .i64 0] 3
  simpa using this
theorem Cnt.more {w : World} {base p q d z : Nat} (h : Cnt w base p q d z) (n : Nat) : Cnt ((w.setCell ⟨p,0,none⟩ (.int .i64 ((d : Int) + 1))).setCell ⟨q,0,none⟩ (.int .i64 ((z : Int) + (1 + (n : Int))))) base p q (d + 1) (z + (1 + n)) := by
 refine ⟨h.lo1,h.lo2,h.ne,?_,?_⟩
 ·have := (h.deep.set_ 0 (.int .i64 ((d : Int) + 1))).far (p := ⟨q,0,none⟩) h.ne (.int .i64 ((z : Int) + (1 + (n : Int))))
  simpa using this
 ·have := (h.size.far (p := ⟨p,0,none⟩) (fun e => h.ne e.symm) (.int .i64 ((d : Int) + 1))).set_ 0 (.int .i64 ((z : Int) + (1 + (n : Int))))
  simpa using this
theorem step_calls (x : ByteArray) (base p q d z : Nat) (B : Bool) (w0 w : World) (hc : Cnt w base p q d z) (hb : Below base w0 w) (hbase : base ≤ w.heap.size) (hd : d ≤ 16) (hz : z ≤ 255) (hx : x.size ≤ 100000) (hB : (nameOk x && decide (d + 1 ≤ 16) && decide (z + (1 + x.size) ≤ 255)) = B) :
 Calls Tryz.prog 162 #[.string x,.pointer (some ⟨p,0,none⟩),.pointer (some ⟨q,0,none⟩)] w fun e w' => e = .returned (.bool B) ∧ Cnt w' base p q (d + 1) (z + (1 + x.size)) ∧ Below base w0 w' := by
 have p1 := cZ0 hc.deep
 have q1 := cZ0 hc.size
 have p2 : w.frozen? ⟨p,0,none⟩ = false := hc.deep.frozen 0
 have q2 : w.frozen? ⟨q,0,none⟩ = false := hc.size.frozen 0
 have hne : ¬ p = q := hc.ne
 have hne2 : ¬ q = p := fun h => hc.ne h.symm
 have HC := hQ_ (hc.more x.size)
 have HB := hQ_ ((hb.setCell (p := ⟨p,0,none⟩) hc.lo1 (.int .i64 ((d : Int) + 1))).setCell (p := ⟨q,0,none⟩) hc.lo2 (.int .i64 ((z : Int) + (1 + (x.size : Int)))))
 have HZ := hQ_ hbase
 have ways : (nameOk x = false ∧ B = false) ∨ (nameOk x = true ∧ ((decide ((d : Int) + 1 ≤ 16) = false ∧ B = false) ∨ (decide ((d : Int) + 1 ≤ 16) = true ∧ ((decide ((z : Int) + (1 + (x.size : Int)) ≤ 255) = false ∧ B = false) ∨ (decide ((z : Int) + (1 + (x.size : Int)) ≤ 255) = true ∧ B = true))))) := by
  subst hB
  cases nameOk x with
  | false => exact .inl ⟨rfl,rfl⟩
  | true =>
    refine .inr ⟨rfl,?_⟩
    simp only [decide_eq_true_eq,decide_eq_false_iff_not,Bool.true_and,Bool.and_eq_false_iff,Bool.and_eq_true]
    omega
 clear hB hc hb hbase
 rcases ways with ⟨hn,rfl⟩ | ⟨hn,⟨d1,rfl⟩ | ⟨d1,⟨d2,rfl⟩ | ⟨d2,rfl⟩⟩⟩
 all_goals
  have HN := hQ_ (fun w => name_is hn hx w)
  clear hn
  go_enter Tryz.func162,Tryz.ntmps162
  go_wp2_with (go_at_call 163; refine (HN.out _).mono ?_; rintro e w' ⟨rfl,hb'⟩; have HC2 := hQ_ (HC.out.below hb'); have HB2 := hQ_ (HB.out.trans (hb'.mono (by simpa using HZ.out))); have t1 : w'.cell? ⟨p,0,none⟩ = some (.int .i64 ((d : Int) + 1)) := (by have := HC2.out.deep.cell 0; simpa using this); have t2 : w'.cell? ⟨q,0,none⟩ = some (.int .i64 ((z : Int) + (1 + (x.size : Int)))) := (by have := HC2.out.size.cell 0; simpa using this); clear hb')
  go_ret
  exact ⟨rfl,HC2.out,HB2.out⟩
theorem all_calls (A : Option Addr) (n c p q : Nat) (L : List ByteArray) (w0 w : World) (hl : Sl txE w0 A n L) (hc : Cnt w w0.heap.size p q 0 0) (hb : Below w0.heap.size w0 w) (hn : n ≤ 100000) (hz : ∀ x ∈ L,x.size ≤ 100000) :
 Calls Tryz.prog 144 #[.slice A n c,.func (.func 162) #[] #[.pointer (some ⟨p,0,none⟩),.pointer (some ⟨q,0,none⟩)]] w fun e w' => e = .returned (.bool (jok L)) ∧ Below w0.heap.size w0 w' := by
 have HL := hQ_ hl
 have HC := hQ_ hc
 have HB := hQ_ hb
 have HZ := hQ_ hz
 have he := ent_next
 clear hl hc hb hz
 go_enter Tryz.func144,Tryz.ntmps144
 go_wp2
 go_loopw [9] (fun i wr => ∃ k : Nat,k ≤ n ∧ i = .int .i64 k ∧ Hid (jok (L.take k) = true) ∧ Hid (Cnt wr w0.heap.size p q k (slashed (L.take k)).length) ∧ Hid (Below w0.heap.size w0 wr)) (fun i _ => n - (intOf i).toNat)
 case atStart => exact ⟨0,Nat.zero_le _,rfl,hQ_ rfl,HC,HB⟩
 case round =>
  obtain ⟨k,hk,rfl,HJ,HK,HW⟩ := hrel
  by_cases hlt : k < n
  ·obtain ⟨x,g,o,hx,rfl,hg,hcl⟩ := (HL.out.below HW.out).get k hlt
   have c1 := tx_cell hcl
   have hxs := HZ.out x (List.mem_of_getElem? hx)
   have hlk : (L.take k).length = k := by rw [List.length_take,HL.out.1]; omega
   have hjs := jok_snoc (L.take k) x HJ.out
   rw [← take_at hx,hlk] at hjs
   obtain ⟨h1,h2,h3⟩ := jok_iff.1 HJ.out
   have hsl : (slashed (L.take (k + 1))).length = (slashed (L.take k)).length + (1 + x.size) := by
    rw [take_at hx,slashed_snoc,List.length_append,List.length_cons,NamesKm.txt_size]
    omega
   obtain ⟨B,hB⟩ : ∃ b,jok (L.take (k + 1)) = b := ⟨_,rfl⟩
   rw [hB] at hjs
   have HS := hQ_ (step_calls x w0.heap.size p q k (slashed (L.take k)).length B w0 wr HK.out HW.out HW.out.size (by omega) (by omega) hxs hjs.symm)
   rw [← hsl] at HS
   have HBB := hQ_ hB
   clear hcl hx hlk hjs h1 h2 h3 hsl hB hxs
   cases B with
   | true =>
     go_wp2_with (go_at_call 162; refine HS.out.mono ?_; rintro e w' ⟨rfl,hc',hb'⟩; have HC' := hQ_ hc'; have HB' := hQ_ hb'; clear hc' hb')
     go_roundw
     case rel => exact ⟨k + 1,by omega,by go_num,HBB,HC',HB'⟩
     case measure => simp [intOf]; omega
   | false =>
     have HF := hQ_ (jok_take HBB.out)
     go_wp2_with (go_at_call 162; refine HS.out.mono ?_; rintro e w' ⟨rfl,hc',hb'⟩; have HB' := hQ_ hb'; clear hc' hb')
     go_ret
     exact ⟨by rw [HF.out]; rfl,HB'.out⟩
  ·obtain rfl : k = n := by omega
   have hL : L.take k = L := List.take_of_length_le (by rw [HL.out.1]; exact Nat.le_refl _)
   have HT : Hid (jok L = true) := hQ_ (by rw [← hL]; exact HJ.out)
   clear hL
   go_wp2_with fail
   go_ret
   exact ⟨by rw [HT.out]; rfl,HW.out⟩
theorem pre_is (s : ByteArray) (h : 0 < s.size) : Lib.hasPrefix s.data.toList [47] = decide ((txt s).getD 0 0 = 47) := by
 obtain ⟨⟨l⟩⟩ := s
 match l,h with
 | b :: r,_ =>
   show ([47] : List UInt8).isPrefixOf (b :: r) = decide ((b.toNat : Int) = 47)
   rw [pre_47,Bool.eq_iff_iff,beq_iff_eq,decide_eq_true_eq]
   constructor
   ·rintro rfl
    rfl
   ·intro e
    apply UInt8.toNat_inj.1
    show 47 = b.toNat
    omega
theorem pre_calls (s : ByteArray) (b : Bool) (h : 0 < s.size) (hb : decide ((txt s).getD 0 0 = 47) = b) (w : World) : Calls Tryz.prog 142 #[.string s,.string ⟨#[47]⟩] w fun e w' => e = .returned (.bool b) ∧ w = w' :=
 (Any.strings_HasPrefix preLay s ⟨#[47]⟩ w).mono fun e w' ⟨he,hw⟩ => ⟨he.trans (by rw [← hb,← pre_is s h]),hw.symm⟩
theorem split_calls (s : ByteArray) (w : World) (hx : Mx w) (hs : s.size ≤ 255) : Calls Tryz.prog 143 #[.string (s.extract 1 s.size),.string ⟨#[47]⟩] w fun e w' => e = .returned (.slice (some ⟨w.heap.size,0,none⟩) (namesOf s).length (namesOf s).length) ∧ w.alloc (.cells ((namesOf s).map Value.string).toArray 9) = w' := by
 obtain ⟨m,hm⟩ := hx
 have := Any.strings_Split { splitLay with } splitLay.i9 (s.extract 1 s.size) sl m w (by simp; omega) hm (by decide)
 have e := names_split s
 have e2 : Lib.countB (s.extract 1 s.size) sl + 1 = (namesOf s).length := names_count s
 rw [e,e2] at this
 exact this.mono fun e w' ⟨h1,h2⟩ => ⟨h1,h2.symm⟩
theorem flat_tx (L : List ByteArray) : L.map Value.string = flat txE L := by
 induction L with
 | nil => rfl
 | cons a r ih =>
   rw [List.map_cons,ih]
   rfl
theorem split_small (s : ByteArray) (w : World) (h : s.size = 0 ∨ 255 < s.size ∨ (0 < s.size ∧ s.size ≤ 255 ∧ ¬ (txt s).getD 0 0 = 47) ∨ s = ⟨#[47]⟩) (hn : s.size ≤ 100000) : Calls Tryz.prog 119 #[.string s] w (SplE s w) := by
 have HO := hQ_ (So.none_ (w := w))
 have HB := hQ_ (Below.refl w.heap.size w)
 have hs : (s.size : Int) ≤ 9223372036854775807 := by omega
 rcases h with h | h | ⟨h0,h1,h⟩ | h
 ·obtain rfl : s = ⟨#[]⟩ := KeysM.empty_of h
  have HK := hQ_ (spl_no (.inl h))
  clear h hn hs
  go_enter Tryz.func119,Tryz.ntmps119
  go_wp2_with fail
  go_ret2
  exact SplE.of HK.out HO.out HB.out
 ·have HK := hQ_ (spl_no (s := s) (.inr h))
  have n1 := KeysU.list_ne (s := s) (by omega)
  have n2 : s.toList.isEmpty = false := by rw [List.isEmpty_eq_false_iff]; exact n1
  have n3 : (s.toList == []) = false := by rw [beq_eq_false_iff_ne]; exact n1
  have d : decide ((255 : Int) < (s.size : Int)) = true := by simp; omega
  clear h hn
  go_enter Tryz.func119,Tryz.ntmps119
  go_wp2_with fail
  go_ret2
  exact SplE.of HK.out HO.out HB.out
 ·have HK := hQ_ (spl_15 (s := s) (by omega) h)
  have n1 := KeysU.list_ne h0
  have n2 : s.toList.isEmpty = false := by rw [List.isEmpty_eq_false_iff]; exact n1
  have n3 : (s.toList == []) = false := by rw [beq_eq_false_iff_ne]; exact n1
  have d : decide ((255 : Int) < (s.size : Int)) = false := by simp; omega
  have HP := hQ_ (pre_calls s false h0 (decide_eq_false h) w)
  clear h hn h0 h1
  go_enter Tryz.func119,Tryz.ntmps119
  go_wp2_with (go_at_call 142; refine HP.out.mono ?_; rintro e w' ⟨rfl,rfl⟩)
  go_ret2
  exact SplE.of HK.out HO.out HB.out
 ·subst h
  have HK : Hid (spl ⟨#[47]⟩ = ([],0)) := hQ_ (by decide +kernel)
  have HP := hQ_ (pre_calls ⟨#[47]⟩ true (by decide) (by decide +kernel) w)
  clear hn hs
  go_enter Tryz.func119,Tryz.ntmps119
  go_wp2_with (go_at_call 142; refine HP.out.mono ?_; rintro e w' ⟨rfl,rfl⟩)
  go_ret2
  exact SplE.of HK.out HO.out HB.out
theorem names_small {s : ByteArray} (h2 : 2 ≤ s.size) (h : s.size ≤ 255) (h47 : (txt s).getD 0 0 = 47) : (namesOf s).length ≤ 255 ∧ ∀ x ∈ namesOf s,x.size ≤ 255 := by
 have hs : slashed (namesOf s) = txt s := by rw [NamesM.slashed_map,NamesM.txt_names,NamesM.fields_back,← NamesM.txt_cons (by omega) h47]
 have hl := slashed_bounds (namesOf s)
 rw [hs,NamesKm.txt_size] at hl
 exact ⟨by omega,fun x hx => by have := hl.2 x hx; omega⟩
theorem split_long (s : ByteArray) (w : World) (hx : Mx w) (h2 : 2 ≤ s.size) (h3 : s.size ≤ 255) (h47 : (txt s).getD 0 0 = 47) : Calls Tryz.prog 119 #[.string s] w (SplE s w) := by
 have hs : (s.size : Int) ≤ 9223372036854775807 := by omega
 have HK := hQ_ (spl_yes h2 h3 h47)
 have HSM := hQ_ (names_small h2 h3 h47)
 have n1 := KeysU.list_ne (s := s) (by omega)
 have n2 : s.toList.isEmpty = false := by rw [List.isEmpty_eq_false_iff]; exact n1
 have n3 : (s.toList == []) = false := by rw [beq_eq_false_iff_ne]; exact n1
 have d : decide ((255 : Int) < (s.size : Int)) = false := by simp; omega
 have n4 : (s.toList == [47]) = false := by
  rw [beq_eq_false_iff_ne]
  intro e
  have := KeysU.list_is _ e
  rw [this] at h2
  exact absurd h2 (by decide)
 have HP := hQ_ (pre_calls s true (by omega) (decide_eq_true h47) w)
 have HS := hQ_ (split_calls s w hx h3)
 have k1 : (1 : Int) ≤ (s.size : Int) := by omega
 have k2 : 1 ≤ s.size := by omega
 have HON := hQ_ (So.none_ (w := w))
 obtain ⟨L,hL⟩ : ∃ L,namesOf s = L := ⟨_,rfl⟩
 rw [hL] at HK HSM HS
 obtain ⟨n,hnl⟩ : ∃ n,L.length = n := ⟨_,rfl⟩
 have HSO := hQ_ (So.lit txE 9 w L (L.map Value.string).toArray n hnl (by rw [← flat_tx]) (Nat.le_refl _) (by have := HSM.out.1; unfold maxLen; omega))
 have HB1 := hQ_ (below_lit (w := w) (L.map Value.string).toArray 9)
 rw [hnl] at HS HSM
 clear hx h2 h3 h47 hL hnl
 obtain ⟨W,hW⟩ : ∃ W,w.alloc (.cells (L.map Value.string).toArray 9) = W := ⟨_,rfl⟩
 rw [hW] at HS HSO HB1
 have HNX := hQ_ (next_calls W)
 have HA := hQ_ (fun (p q : Nat) (w2 : World) (hc : Cnt w2 W.heap.size p q 0 0) (hb : Below W.heap.size W w2) => all_calls (some ⟨w.heap.size,0,none⟩) n n p q L W w2 HSO.out.sl hc hb (by have := HSM.out.1; omega) (fun x hx => by have := HSM.out.2 x hx; omega))
 clear hW
 obtain ⟨B,hB⟩ : ∃ b,jok L = b := ⟨_,rfl⟩
 rw [hB] at HA HK
 clear hB
 cases B with
 | true =>
   have HK2 : Hid (spl s = (L,0)) := hQ_ HK.out
   clear HK
   go_enter Tryz.func119,Tryz.ntmps119
   go_wp2_with (first
    | (go_at_call 142; refine HP.out.mono ?_; rintro e w' ⟨rfl,rfl⟩)
    | (go_at_call 143; refine HS.out.mono ?_; rintro e w' ⟨rfl,rfl⟩)
    | (go_at_call 145; refine HNX.out.mono ?_; rintro e w2 ⟨p,q,rfl,hc2,hb2⟩; have HC2 := hQ_ hc2; have HB2 := hQ_ hb2; clear hc2 hb2)
    | (go_at_call 144; refine (HA.out _ _ _ HC2.out HB2.out).mono ?_; rintro e w3 ⟨rfl,hb3⟩; have HB3 := hQ_ hb3; clear hb3))
   go_ret2
   exact SplE.of HK2.out (HSO.out.below HB3.out) (keeps HB1.out HB3.out)
 | false =>
   have HK2 : Hid (spl s = ([],17)) := hQ_ HK.out
   clear HK
   go_enter Tryz.func119,Tryz.ntmps119
   go_wp2_with (first
    | (go_at_call 142; refine HP.out.mono ?_; rintro e w' ⟨rfl,rfl⟩)
    | (go_at_call 143; refine HS.out.mono ?_; rintro e w' ⟨rfl,rfl⟩)
    | (go_at_call 145; refine HNX.out.mono ?_; rintro e w2 ⟨p,q,rfl,hc2,hb2⟩; have HC2 := hQ_ hc2; have HB2 := hQ_ hb2; clear hc2 hb2)
    | (go_at_call 144; refine (HA.out _ _ _ HC2.out HB2.out).mono ?_; rintro e w3 ⟨rfl,hb3⟩; have HB3 := hQ_ hb3; clear hb3))
   go_ret2
   exact SplE.of HK2.out (HON.out.below (keeps HB1.out HB3.out)) (keeps HB1.out HB3.out)
theorem split_ok : SplitOk := by
 intro s w hn hx
 by_cases h0 : s.size = 0
 ·exact split_small s w (.inl h0) hn
 by_cases h1 : 255 < s.size
 ·exact split_small s w (.inr (.inl h1)) hn
 by_cases h2 : (txt s).getD 0 0 = 47
 ·by_cases h3 : s.size = 1
  ·refine split_small s w (.inr (.inr (.inr ?_))) hn
   exact one_47 h3 h2
  ·exact split_long s w hx (by omega) (by omega) h2
 ·exact split_small s w (.inr (.inr (.inl ⟨by omega,by omega,h2⟩))) hn
theorem eq_calls (A B : Option Addr) (n c m c2 : Nat) (L M : List ByteArray) (w : World) (hl : Sl txE w A n L) (hm : Sl txE w B m M) (h : n < m) (hn : n ≤ 100000) : Calls Tryz.prog 159 #[.slice A n c,.slice B n c2] w fun e w' => e = .returned (.bool (decide (L = M.take n))) ∧ Below w.heap.size w w' := by
 rcases Nat.eq_zero_or_pos n with h0 | h0
 ·subst h0
  have hL : L = [] := List.eq_nil_of_length_eq_zero hl.1
  subst hL
  exact (Any.slices_Equal_string_empty eqLay A B c 0 c2 w (by decide)).mono fun e w' ⟨he,hw⟩ => ⟨he.trans (by simp),hw ▸ Below.refl _ _⟩
 ·obtain ⟨x,b,o,_,rfl,hb,_⟩ := hl.get 0 h0
  obtain ⟨y,b2,o2,_,rfl,hb2,_⟩ := hm.get 0 (by omega)
  have ln := hl.1
  have lm := hm.1
  refine (Any.slices_Equal_string eqLay b o n c b2 o2 n c2 L M w (by omega) (by omega) (by omega) (by omega) (fun j hj => ?_) (fun j hj => ?_)).mono fun e w' ⟨he,q,hw⟩ => ⟨he.trans ?_,hw ▸ below_drewN (Below.refl _ _) q⟩
  ·rw [List.getD_eq_getElem?_getD,List.getElem?_eq_getElem hj]
   exact tx_cell (hl.at_ j _ (List.getElem?_eq_getElem hj)).2
  ·rw [List.getD_eq_getElem?_getD,List.getElem?_eq_getElem hj]
   exact tx_cell (hm.at_ j _ (List.getElem?_eq_getElem hj)).2
  ·rw [List.take_of_length_le (by omega : L.length ≤ n)]
theorem under_ok : UnderOk := by
 intro A B n c m c2 L M w hl hm hnc hmc hn hmm
 by_cases h : n < m
 ·have hu : under L M = decide (L = M.take n) := by
   rw [under_yes (by rw [hl.1,hm.1]; exact h),hl.1]
   by_cases e : L = M.take n
   ·rw [decide_eq_true e,decide_eq_true e.symm]
   ·rw [decide_eq_false e,decide_eq_false (fun h => e h.symm)]
  have HE := hQ_ (eq_calls A B n c m c2 L M w hl hm (by omega) hn)
  rw [← hu] at HE
  have d : decide ((n : Int) < (m : Int)) = true := by rw [decide_eq_true_eq]; omega
  have d' : decide (n < m) = true := decide_eq_true h
  have k1 : (0 : Int) ≤ (n : Int) := by omega
  have k2 : (n : Int) ≤ (c2 : Int) := by omega
  have k3 : n ≤ c2 := by omega
  clear hu hl hm hmc hnc h
  go_enter Tryz.func136,Tryz.ntmps136
  go_wp2_with (go_at_call 159; refine HE.out.mono ?_; rintro e w2 ⟨rfl,hb2⟩; have HB2 := hQ_ hb2; clear hb2)
  go_ret
  exact ⟨rfl,HB2.out⟩
 ·have hu : under L M = false := under_no (by rw [hl.1,hm.1]; exact h)
  have d : decide ((n : Int) < (m : Int)) = false := by rw [decide_eq_false_iff_not]; omega
  have d' : decide (n < m) = false := decide_eq_false h
  rw [hu]
  clear hu hl hm hmc hnc h
  go_enter Tryz.func136,Tryz.ntmps136
  go_wp2_with fail
  go_ret
  exact ⟨rfl,Below.refl _ _⟩
end Go.Proofs.YtogdjbhjgbnicaaGreatDoor.NamesK
namespace Go.Proofs.YtogdjbhjgbnicaaGreatDoor.WalkKb
open Go.RowKit
open Byte PackM KeysM KeysS KeysV KeysB KeysD TreeM TreeR ViewM NodeM NodeG NamesM NamesL NamesK WalkM WalkF WalkKm Lst Tx Chg TreeL ViewL WalkL WalkV Vat WalkKa
open WalkD (blk_chg)
open Own hiding keeps
variable {Rep : RepT}
theorem sp_key {p : Pr} (h : (sp p.key).letter ≠ 0) : p.key.size ≤ 37 := by
 rcases sp_ways p.key with h1 | ⟨_,h2⟩ | ⟨_,_,h2⟩ | ⟨_,h2⟩
 ·rw [h1] at h
  exact absurd rfl h
 ·omega
 ·omega
 ·omega
def ListR (Rep : RepT) (v : Value) (s : Vs) (dir : Int) (S D : Nat → Prop) (w : World) (e : Ending) (w' : World) : Prop := ∃ A m c a b S' D',e = .returned (.slice A m c) ∧ So txE 9 w' w.heap.size (.slice A m c) m (listM dir s.shown) ∧ Rep w' v (s.ranged a b) S' D' ∧ Stp S D S' D' w w'
theorem list_calls (hS : Stays Rep) (hX : RangeOk Rep) {w : World} {v : Value} {s : Vs} {S D : Nat → Prop} (dir : Int) (hr : Rep w v s S D) (hl : Lim s) (h0 : 0 ≤ dir) (h1 : dir ≤ 4294967295) (hk : ∀ p ∈ s.shown,(sp p.key).letter ≠ 0) (hn : s.shown.length ≤ 100000) :
 Calls Tryz.prog 117 #[v,.int .u32 dir] w (ListR Rep v s dir S D w) := by
 have A0 := hQ_ (At.start hr)
 have HE := hQ_ (fun w => entries_small dir w h0 h1)
 have HK := hQ_ hk
 have HS := hQ_ hS
 have HL := hQ_ hl
 have HX := hQ_ hX
 obtain ⟨M,hM⟩ : ∃ M,s.shown.filter (entB dir) = M := ⟨_,rfl⟩
 have HMF := hQ_ hM
 have HM2 : Hid (∀ p ∈ M,entB dir p = true ∧ p.key.size ≤ 100000 ∧ (sp p.key).letter = 69) := hQ_ (fun p hp => by
  rw [← hM] at hp
  have h3 := List.mem_filter.1 hp
  have h4 := sp_key (HK.out p h3.1)
  have h5 := h3.2
  unfold entB at h5
  rw [Bool.and_eq_true,decide_eq_true_eq] at h5
  exact ⟨h3.2,by omega,h5.1⟩)
 have hLM : listM dir s.shown = M.map (fun p => (sp p.key).name) := by rw [list_ent,hM]
 unfold ListR
 rw [hLM]
 clear hr hl hS hX hk hM hLM
 go_enter Tryz.func117,Tryz.ntmps117
 go_wp2_with fail
 refine (HE.out _).mono ?_
 rintro e w1 ⟨a,b,rfl,hrg,ha,hb,hb1⟩
 have A1 := hQ_ (A0.out.below HS.out hb1)
 have HRG : Hid (rangeL a b s.shown = s.shown.filter (entB dir)) := hQ_ (range_ent hrg.out HK.out)
 clear hb1 hrg
 go_wp2_with fail
 refine (HX.out a b A1.out.rep HL.out (by omega) (by omega)).mono ?_
 rintro e w2 ⟨⟨ra,rn,rc⟩,S2,D2,rfl,hsl,hnew,hr2,st2⟩
 rw [rangeOf_is,HRG.out,HMF.out] at hsl
 dsimp only at hsl hnew
 have A2 := hQ_ (A1.out.step HS.out hr2 st2)
 have HLR := hQ_ hsl
 have hrn : rn ≤ 100000 := by
  rw [← hsl.1]
  rw [← HMF.out]
  exact Nat.le_trans (List.length_filter_le _ _) hn
 have HZ2 := hQ_ A2.out.size
 clear hsl hnew hr2 st2 ha hb
 go_wp2_with fail
 go_loopw [5,19] (fun v i wr => ∃ (A' : Option Addr) (m c' k : Nat) (N : List ByteArray),v = .slice A' m c' ∧ i = .int .i64 k ∧ k ≤ rn ∧ m = k ∧ So txE 9 wr w2.heap.size (.slice A' m c') m N ∧ Hid (N = (M.take k).map (fun p => (sp p.key).name)) ∧ Below w2.heap.size w2 wr) (fun _ i _ => rn - (intOf i).toNat)
 case atStart => exact ⟨none,0,0,0,[],rfl,rfl,Nat.zero_le _,rfl,So.nil_ _ _ _ _,hQ_ rfl,Below.refl _ _⟩
 case round =>
  obtain ⟨A',m,c',k,N,rfl,rfl,hk,rfl,hso,HN,hbel⟩ := hrel
  by_cases hlt : m < rn
  ·obtain ⟨x,g,o,hx,rfl,hg,hcl⟩ := (HLR.out.below hbel).get m hlt
   obtain ⟨c1,c2,c3,hcc⟩ := pair_cells hcl
   have hmx := HM2.out x (List.mem_of_getElem? hx)
   have HNX := hQ_ (map_nx hx (fun p => (sp p.key).name))
   have HSP := hQ_ (fun w => split_calls x.key w hmx.2.1)
   unfold SpE at HSP
   have HSO := hQ_ hso
   have HBL := hQ_ hbel
   have hlet := hmx.2.2
   obtain ⟨xk,xv,xg⟩ := x
   dsimp only at *
   have HN2 : Hid (N ++ [(sp xk).name] = (M.take (m + 1)).map (fun p => (sp p.key).name)) := hQ_ (by rw [HNX.out,HN.out])
   rw [hlet] at HSP
   clear HNX hcl hx hso hbel hmx hlet
   generalize (sp xk).ino = X2 at *
   generalize (sp xk).name = X3 at *
   generalize (sp xk).n = X4 at *
   have hbs := HBL.out.size
   go_wp2_with ((with_reducible refine pick (some 22) ?_); refine wpList_load_mid rfl 64 _ rfl g (o + m * 3) rfl _ _ hcc Tryz.underlying64 rfl info_pair3 ?_)
   refine (HSP.out _).mono ?_
   rintro e w3 ⟨rfl,hb3⟩
   have HB3 := hQ_ (Own.keeps (HBL.out.alloc hbs (.cells #[.string xk,.string xv,.bool xg] 64)) hb3)
   have HSO3 := hQ_ ((HSO.out.below ((Below.refl _ _).alloc (Nat.le_refl _) (.cells #[.string xk,.string xv,.bool xg] 64))).below hb3)
   clear hb3
   go_wp2_with ((with_reducible refine pick (some 36) ?_); refine wpList_append_any txE 9 rfl _ _ _ rfl Tryz.underlying44 info_tx rfl w2.heap.size _ m N rfl (HSO3.out.below (bW_)) _ 1 1 [X3] rfl (Sl.new_ txE _ _ X3 _ rfl) (fun h => by cases h) (m + 1) rfl _ rfl (by unfold maxLen; omega) (by omega) (by have := HB3.out.size; simp; omega) ?_; intro v' w' hown' hg' hat'; obtain ⟨A3,c3',rfl,_⟩ := Tx.So.head hown')
   have hal := HB3.out.alloc HB3.out.size (.cells #[.string X3] 9)
   have HBB : Hid (Below w2.heap.size w2 w') := hQ_ (hal.grown hg' hal.size (fun k hk => (HSO3.out.lt hk).1))
   clear hal
   go_roundw
   case rel => exact ⟨A3,m + 1,c3',m + 1,_,rfl,by go_num,by omega,rfl,hown',HN2,HBB.out⟩
   case measure => simp [intOf]; omega
  ·obtain rfl : m = rn := by omega
   have HBL := hQ_ hbel
   have HSO := hQ_ hso
   have hML : M.take m = M := List.take_of_length_le (by rw [HLR.out.1]; exact Nat.le_refl _)
   have HNM : Hid (N = M.map (fun p => (sp p.key).name)) := hQ_ (by rw [HN.out,hML])
   have A3 := hQ_ (A2.out.below HS.out hbel)
   clear hML hbel hso
   go_wp2_with fail
   go_ret
   exact ⟨A',m,c',a,b,S2,D2,rfl,by rw [← HNM.out]; exact HSO.out.lower HZ2.out,A3.out.rep,A3.out.st⟩
theorem list_ok (hS : Stays Rep) (hX : RangeOk Rep) (hn : ∀ ⦃w v s S D⦄,Rep w v s S D → Lim s → s.shown.length ≤ 100000) : ListOk Rep := by
 intro w v s S D dir hr hl h0 h1 hk
 refine (list_calls hS hX dir hr hl h0 h1 hk (hn hr hl)).mono ?_
 rintro e w' ⟨A,m,c,a,b,S',D',he,hso,hr',st⟩
 exact ⟨A,m,c,a,b,S',D',he,hso.sl,hr',st⟩
def spotV (x : Spot) : Value := .agg #[.int .u32 x.dir,.string x.name,.int .u32 x.ino,.int .u8 x.node.k,.int .u32 x.node.l,.int .u32 x.node.s,.int .u32 x.node.p]
theorem info_spot : (Tryz.prog.info? 150).map (·.size) = some 7 := by kernel_rfl
theorem root_calls (hS : Stays Rep) (hG : GetOk Rep) (hB : Small Rep) {w : World} {v : Value} {s : Vs} {S D : Nat → Prop} (hr : Rep w v s S D) (hl : Lim s) :
 Calls Tryz.prog 120 #[v] w (WalkL.Stepped Rep v (s.read (kI 1)) (spotV ⟨0,⟨#[]⟩,1,(loadM s.shown 1).1⟩) S D w) := by
 have R0 := hQ_ (Blk.new_ w #[.int .u32 0,.string ⟨#[]⟩,.int .u32 0,.int .u8 0,.int .u32 0,.int .u32 0,.int .u32 0] 150)
 have hb0 := bX_ R0.out
 have A0 := hQ_ ((At.start hr).own hS hb0 (Nat.le_refl _) (by simp))
 have HLD := hQ_ (fun (w1 : World) (S D : Nat → Prop) (hr : Rep w1 v s S D) => load_calls hS hG hB 1 hr hl (by omega) (by omega))
 unfold LoadV at HLD
 unfold spotV
 dsimp only
 generalize (loadM s.shown 1).2 = bb at *
 generalize (loadM s.shown 1).1 = xx at *
 obtain ⟨xk,xl,xz,xp⟩ := xx
 dsimp only at HLD ⊢
 generalize s.read (kI 1) = s1 at *
 have HS := hQ_ hS
 clear hb0 hr hl hS hG hB
 go_enter Tryz.func120,Tryz.ntmps120
 go_wp2_with fail
 refine (HLD.out _ _ _ A0.out.rep).mono ?_
 rintro e w2 ⟨S2,D2,rfl,hr2,st2⟩
 have A2 := hQ_ (A0.out.step HS.out hr2 st2)
 have R2 := hQ_ (A0.out.blk HS.out R0.out (.inr rfl) st2)
 have I3 := hQ_ (Blk.new_ w2 #[.int .u8 xk,.int .u32 xl,.int .u32 xz,.int .u32 xp] 46)
 have hb3 := bX_ I3.out
 have A3 := hQ_ (A2.out.below HS.out hb3)
 have R3 := hQ_ (R2.out.below hb3)
 clear hr2 st2 hb3
 go_wp2_with (first
  | ((with_reducible refine pick (some 10) ?_); refine load_blk rfl 46 _ rfl w2.heap.size rfl 46 _ _ I3.out Tryz.underlying46 rfl info_ino ?_)
  | ((with_reducible refine pick none ?_); refine store_blk rfl 150 _ _ rfl w.heap.size #[.int .u32 0,.string ⟨#[]⟩,.int .u32 1,.int .u8 xk,.int .u32 xl,.int .u32 xz,.int .u32 xp] rfl rfl 150 _ R3.out info_spot rfl (by simp [Value.oneCell']) ?_; intro w5 hk5 hg5))
 have A5 := A3.out.stored HS.out R3.out (.inr rfl) (by decide) hg5
 exact bodyPost_ret (v := .agg #[.int .u32 0,.string ⟨#[]⟩,.int .u32 1,.int .u8 xk,.int .u32 xl,.int .u32 xz,.int .u32 xp]) (results_cell_row rfl _ _ w.heap.size 150 _ (0,0) _ rfl hk5 Tryz.underlying150 rfl info_spot) rfl ⟨S2,D2,rfl,A5.rep,A5.st⟩
theorem spot_a {w0 W : World} {S0 D0 M S D : Nat → Prop} {v : Value} {s : Vs} {r : Nat} {x0 x1 : Value} (hS : Stays Rep) (A : At Rep w0 S0 D0 M W v s S D) (R : Blk W r #[x0,x1,.int .u32 0,.int .u8 0,.int .u32 0,.int .u32 0,.int .u32 0] 150) (hr : M r) (i k l z p : Value) :
 At Rep w0 S0 D0 M ((((((W.setCell ⟨r,2,none⟩ i).setCell ⟨r,3,none⟩ k).setCell ⟨r,4,none⟩ l).setCell ⟨r,5,none⟩ z).setCell ⟨r,6,none⟩ p).drew) v s S D ∧ Blk ((((((W.setCell ⟨r,2,none⟩ i).setCell ⟨r,3,none⟩ k).setCell ⟨r,4,none⟩ l).setCell ⟨r,5,none⟩ z).setCell ⟨r,6,none⟩ p).drew) r #[x0,x1,i,k,l,z,p] 150 ∧ Chg (fun b => b = r) W ((((((W.setCell ⟨r,2,none⟩ i).setCell ⟨r,3,none⟩ k).setCell ⟨r,4,none⟩ l).setCell ⟨r,5,none⟩ z).setCell ⟨r,6,none⟩ p).drew) := by
 have h1 := R.set_ 2 i
 have h2 := h1.set_ 3 k
 have h3 := h2.set_ 4 l
 have h4 := h3.set_ 5 z
 have h5 := h4.set_ 6 p
 exact ⟨(((((A.set hS R hr (by decide) 2 i).set hS h1 hr (by decide) 3 k).set hS h2 hr (by decide) 4 l).set hS h3 hr (by decide) 5 z).set hS h4 hr (by decide) 6 p).below hS ((Below.refl _ _).drew),h5.drew,((((((Chg.refl (fun b => b = r) W).setCell (.inl rfl) _).setCell (.inl rfl) _).setCell (.inl rfl) _).setCell (.inl rfl) _).setCell (.inl rfl) _).drew⟩
theorem within_calls (hS : Stays Rep) (hG : GetOk Rep) (hB : Small Rep) {w : World} {v : Value} {s : Vs} {S D : Nat → Prop} (dir : Int) (name : ByteArray) (hr : Rep w v s S D) (hl : Lim s) (hl2 : s.rd.length ≤ 19900) (h0 : 0 ≤ dir) (h1 : dir ≤ 4294967295) (hn : name.size ≤ 100000) :
 Calls Tryz.prog 121 #[v,.int .u32 dir,.string name] w (WalkL.Stepped Rep v (readW s dir name) (spotV (withinM s.shown dir name)) S D w) := by
 have hb0 := bN_ w (.cells #[.int .u32 0,.string ⟨#[]⟩,.int .u32 0,.int .u8 0,.int .u32 0,.int .u32 0,.int .u32 0] 150)
 obtain ⟨W0,hW0⟩ : ∃ W0,(w.alloc (.cells #[.int .u32 0,.string ⟨#[]⟩,.int .u32 0,.int .u8 0,.int .u32 0,.int .u32 0,.int .u32 0] 150)).alloc (.cells #[.int .u32 dir,.string name,.int .u32 0,.int .u8 0,.int .u32 0,.int .u32 0,.int .u32 0] 150) = W0 := ⟨_,rfl⟩
 have A0 : At Rep w S D (fun b => (False ∨ b = w.heap.size) ∨ b = w.heap.size + 1) W0 v s S D := by
  rw [← hW0]
  exact ((At.start hr).own hS hb0 (Nat.le_refl _) (by simp)).own hS (bW_) (by simp) (by simp)
 have R0 : Blk W0 w.heap.size #[.int .u32 0,.string ⟨#[]⟩,.int .u32 0,.int .u8 0,.int .u32 0,.int .u32 0,.int .u32 0] 150 := by
  rw [← hW0]
  exact (Blk.new_ _ _ _).alloc _
 have N0 : Blk W0 (w.heap.size + 1) #[.int .u32 dir,.string name,.int .u32 0,.int .u8 0,.int .u32 0,.int .u32 0,.int .u32 0] 150 := by
  rw [← hW0]
  have := Blk.new_ (w.alloc (.cells #[.int .u32 0,.string ⟨#[]⟩,.int .u32 0,.int .u8 0,.int .u32 0,.int .u32 0,.int .u32 0] 150)) #[.int .u32 dir,.string name,.int .u32 0,.int .u8 0,.int .u32 0,.int .u32 0,.int .u32 0] 150
  simpa using this
 have A0 := hQ_ A0
 have R0 := hQ_ R0
 have N0 := hQ_ N0
 have HW0 := hQ_ hW0
 have HCH := hQ_ (fun (w1 : World) (S D : Nat → Prop) (hr : Rep w1 v s S D) => child_ok hS hG hB dir name hr hl h0 h1 hn)
 have hcb := child_bd s.shown dir name
 have HLD := hQ_ (fun (w1 : World) (S D : Nat → Prop) (hr : Rep w1 v (s.read (kE dir name)) S D) => load_calls hS hG hB (childM s.shown dir name).1 hr ⟨hl.base,by have := putP_len ⟨kE dir name,⟨#[]⟩,false⟩ s.rd; show (putP _ s.rd).length ≤ 20000; omega,hl.rg⟩ hcb.1 hcb.2)
 rw [show (s.read (kE dir name)).shown = s.shown from rfl] at HLD
 have HS := hQ_ hS
 have hns : (name.size : Int) ≤ 100000 := by omega
 unfold readW withinM
 unfold LoadV at HLD
 generalize hK : childM s.shown dir name = cc at *
 obtain ⟨ci,cb⟩ := cc
 dsimp only at HCH HLD hcb ⊢
 generalize hQ : loadM s.shown ci = ll at *
 obtain ⟨⟨xk,xl,xz,xp⟩,lb⟩ := ll
 dsimp only at HLD ⊢
 generalize s.read (kE dir name) = s1 at *
 generalize s1.read (kI ci) = s2 at *
 clear hb0 hr hl hl2 hS hG hB hW0 hK hQ
 cases cb with
 | false =>
   simp only [Bool.false_and,Bool.false_eq_true,if_false]
   unfold spotV
   dsimp only [ino0]
   go_enter Tryz.func121,Tryz.ntmps121
   go_wp2_with fail
   rw [HW0.out]
   refine (HCH.out _ _ _ A0.out.rep).mono ?_
   rintro e w2 ⟨S2,D2,rfl,hr2,st2⟩
   have A2 := hQ_ (A0.out.step HS.out hr2 st2)
   have R2 := hQ_ (A0.out.blk HS.out R0.out (.inl (.inr rfl)) st2)
   have N2 := hQ_ (A0.out.blk HS.out N0.out (.inr rfl) st2)
   clear hr2 st2
   go_wp2_with (first
    | ((with_reducible refine pick (some 24) ?_); refine load_blk rfl 150 _ rfl (w.heap.size + 1) rfl 150 _ _ N2.out Tryz.underlying150 rfl info_spot ?_)
    | ((with_reducible refine pick none ?_); refine store_blk rfl 150 _ _ rfl w.heap.size #[.int .u32 dir,.string name,.int .u32 0,.int .u8 0,.int .u32 0,.int .u32 0,.int .u32 0] rfl rfl 150 _ R2.out info_spot rfl (by simp [Value.oneCell']) ?_; intro w5 hk5 hg5))
   have A5 := A2.out.stored HS.out R2.out (.inl (.inr rfl)) (by decide) hg5
   exact bodyPost_ret (v := .agg #[.int .u32 dir,.string name,.int .u32 0,.int .u8 0,.int .u32 0,.int .u32 0,.int .u32 0]) (results_cell_row rfl _ _ w.heap.size 150 _ (0,0) _ rfl hk5 Tryz.underlying150 rfl info_spot) rfl ⟨S2,D2,rfl,A5.rep,A5.st⟩
 | true =>
   simp only [Bool.true_and,if_true]
   have hci := hcb
   cases lb with
   | false =>
     simp only [Bool.false_eq_true,if_false]
     unfold spotV
     dsimp only [ino0]
     go_enter Tryz.func121,Tryz.ntmps121
     go_wp2_with fail
     rw [HW0.out]
     refine (HCH.out _ _ _ A0.out.rep).mono ?_
     rintro e w2 ⟨S2,D2,rfl,hr2,st2⟩
     have A2 := hQ_ (A0.out.step HS.out hr2 st2)
     have R2 := hQ_ (A0.out.blk HS.out R0.out (.inl (.inr rfl)) st2)
     have N2 := hQ_ (A0.out.blk HS.out N0.out (.inr rfl) st2)
     clear hr2 st2
     go_wp2_with fail
     refine (HLD.out _ _ _ A2.out.rep).mono ?_
     rintro e w3 ⟨S3,D3,rfl,hr3,st3⟩
     have A3 := hQ_ ((A2.out.step HS.out hr3 st3).below HS.out ((Below.refl _ _).alloc (Nat.le_refl _) (.cells #[.int .u8 xk,.int .u32 xl,.int .u32 xz,.int .u32 xp] 46)))
     have R3 := hQ_ ((A2.out.blk HS.out R2.out (.inl (.inr rfl)) st3).alloc (.cells #[.int .u8 xk,.int .u32 xl,.int .u32 xz,.int .u32 xp] 46))
     have N3 := hQ_ ((A2.out.blk HS.out N2.out (.inr rfl) st3).alloc (.cells #[.int .u8 xk,.int .u32 xl,.int .u32 xz,.int .u32 xp] 46))
     clear hr3 st3
     go_wp2_with (first
      | ((with_reducible refine pick (some 36) ?_); refine load_blk rfl 150 _ rfl (w.heap.size + 1) rfl 150 _ _ N3.out Tryz.underlying150 rfl info_spot ?_)
      | ((with_reducible refine pick none ?_); refine store_blk rfl 150 _ _ rfl w.heap.size #[.int .u32 dir,.string name,.int .u32 0,.int .u8 0,.int .u32 0,.int .u32 0,.int .u32 0] rfl rfl 150 _ R3.out info_spot rfl (by simp [Value.oneCell']) ?_; intro w5 hk5 hg5))
     have A5 := A3.out.stored HS.out R3.out (.inl (.inr rfl)) (by decide) hg5
     exact bodyPost_ret (v := .agg #[.int .u32 dir,.string name,.int .u32 0,.int .u8 0,.int .u32 0,.int .u32 0,.int .u32 0]) (results_cell_row rfl _ _ w.heap.size 150 _ (0,0) _ rfl hk5 Tryz.underlying150 rfl info_spot) rfl ⟨S3,D3,rfl,A5.rep,A5.st⟩
   | true =>
     simp only [if_true]
     unfold spotV
     dsimp only
     go_enter Tryz.func121,Tryz.ntmps121
     go_wp2_with fail
     rw [HW0.out]
     refine (HCH.out _ _ _ A0.out.rep).mono ?_
     rintro e w2 ⟨S2,D2,rfl,hr2,st2⟩
     have A2 := hQ_ (A0.out.step HS.out hr2 st2)
     have R2 := hQ_ (A0.out.blk HS.out R0.out (.inl (.inr rfl)) st2)
     have N2 := hQ_ (A0.out.blk HS.out N0.out (.inr rfl) st2)
     clear hr2 st2
     go_wp2_with fail
     refine (HLD.out _ _ _ A2.out.rep).mono ?_
     rintro e w3 ⟨S3,D3,rfl,hr3,st3⟩
     obtain ⟨W4,hW4⟩ : ∃ W4,w3.alloc (.cells #[.int .u8 xk,.int .u32 xl,.int .u32 xz,.int .u32 xp] 46) = W4 := ⟨_,rfl⟩
     have hb4 : Below w3.heap.size w3 W4 := by rw [← hW4]; exact bW_
     have A4 := hQ_ ((A2.out.step HS.out hr3 st3).below HS.out hb4)
     have R4 := hQ_ ((A2.out.blk HS.out R2.out (.inl (.inr rfl)) st3).below hb4)
     have N4 := hQ_ ((A2.out.blk HS.out N2.out (.inr rfl) st3).below hb4)
     have I4 : Blk W4 w3.heap.size #[.int .u8 xk,.int .u32 xl,.int .u32 xz,.int .u32 xp] 46 := by rw [← hW4]; exact Blk.new_ _ _ _
     have HW4 := hQ_ hW4
     obtain ⟨i0,i1,i2,i3⟩ : W4.cell? ⟨w3.heap.size,0,none⟩ = some (.int .u8 xk) ∧ W4.cell? ⟨w3.heap.size,1,none⟩ = some (.int .u32 xl) ∧ W4.cell? ⟨w3.heap.size,2,none⟩ = some (.int .u32 xz) ∧ W4.cell? ⟨w3.heap.size,3,none⟩ = some (.int .u32 xp) := ⟨I4.cell 0,I4.cell 1,I4.cell 2,I4.cell 3⟩
     obtain ⟨n2,n3,n4,n5,n6⟩ : W4.cell? ⟨w.heap.size + 1,2,none⟩ = some (.int .u32 0) ∧ W4.cell? ⟨w.heap.size + 1,3,none⟩ = some (.int .u8 0) ∧ W4.cell? ⟨w.heap.size + 1,4,none⟩ = some (.int .u32 0) ∧ W4.cell? ⟨w.heap.size + 1,5,none⟩ = some (.int .u32 0) ∧ W4.cell? ⟨w.heap.size + 1,6,none⟩ = some (.int .u32 0) := ⟨N4.out.cell 2,N4.out.cell 3,N4.out.cell 4,N4.out.cell 5,N4.out.cell 6⟩
     obtain ⟨f2,f3,f4,f5,f6⟩ : W4.frozen? ⟨w.heap.size + 1,2,none⟩ = false ∧ W4.frozen? ⟨w.heap.size + 1,3,none⟩ = false ∧ W4.frozen? ⟨w.heap.size + 1,4,none⟩ = false ∧ W4.frozen? ⟨w.heap.size + 1,5,none⟩ = false ∧ W4.frozen? ⟨w.heap.size + 1,6,none⟩ = false := ⟨N4.out.frozen 2,N4.out.frozen 3,N4.out.frozen 4,N4.out.frozen 5,N4.out.frozen 6⟩
     have hne : ¬ w3.heap.size = w.heap.size + 1 := by have := N2.out.lt; have := st3.chg.size; omega
     have hne' : ¬ w.heap.size + 1 = w3.heap.size := fun h => hne h.symm
     clear hr3 st3 hb4 I4 hW4
     go_wp2_with fail
     rw [HW4.out]
     go_region_law (fail)
     all_goals first
      | (obtain ⟨A5,N5,C5⟩ := spot_a HS.out A4.out N4.out (.inr rfl) (.int .u32 ci) (.int .u8 xk) (.int .u32 xl) (.int .u32 xz) (.int .u32 xp)
         have R5 := blk_chg R4.out C5 (by omega)
         have A5 := hQ_ A5
         have N5 := hQ_ N5
         have R5 := hQ_ R5
         clear C5
         go_wp2_with (first
          | ((with_reducible refine pick (some 36) ?_); refine load_blk rfl 150 _ rfl (w.heap.size + 1) rfl 150 _ _ N5.out Tryz.underlying150 rfl info_spot ?_)
          | ((with_reducible refine pick none ?_); refine store_blk rfl 150 _ _ rfl w.heap.size #[.int .u32 dir,.string name,.int .u32 ci,.int .u8 xk,.int .u32 xl,.int .u32 xz,.int .u32 xp] rfl rfl 150 _ R5.out info_spot rfl (by simp [Value.oneCell']) ?_; intro w5 hk5 hg5))
         have A6 := A5.out.stored HS.out R5.out (.inl (.inr rfl)) (by decide) hg5
         exact bodyPost_ret (v := .agg #[.int .u32 dir,.string name,.int .u32 ci,.int .u8 xk,.int .u32 xl,.int .u32 xz,.int .u32 xp]) (results_cell_row rfl _ _ w.heap.size 150 _ (0,0) _ rfl hk5 Tryz.underlying150 rfl info_spot) rfl ⟨S3,D3,rfl,A6.rep,A6.st⟩)
      | (obtain ⟨A5,N5,C5⟩ := spot_b HS.out A4.out N4.out (.inr rfl) (.int .u32 ci) (.int .u8 xk) (.int .u32 xl) (.int .u32 xz) (.int .u32 xp)
         have R5 := blk_chg R4.out C5 (by omega)
         have A5 := hQ_ A5
         have N5 := hQ_ N5
         have R5 := hQ_ R5
         clear C5
         go_wp2_with (first
          | ((with_reducible refine pick (some 36) ?_); refine load_blk rfl 150 _ rfl (w.heap.size + 1) rfl 150 _ _ N5.out Tryz.underlying150 rfl info_spot ?_)
          | ((with_reducible refine pick none ?_); refine store_blk rfl 150 _ _ rfl w.heap.size #[.int .u32 dir,.string name,.int .u32 ci,.int .u8 xk,.int .u32 xl,.int .u32 xz,.int .u32 xp] rfl rfl 150 _ R5.out info_spot rfl (by simp [Value.oneCell']) ?_; intro w5 hk5 hg5))
         have A6 := A5.out.stored HS.out R5.out (.inl (.inr rfl)) (by decide) hg5
         exact bodyPost_ret (v := .agg #[.int .u32 dir,.string name,.int .u32 ci,.int .u8 xk,.int .u32 xl,.int .u32 xz,.int .u32 xp]) (results_cell_row rfl _ _ w.heap.size 150 _ (0,0) _ rfl hk5 Tryz.underlying150 rfl info_spot) rfl ⟨S3,D3,rfl,A6.rep,A6.st⟩)
def FindP (Rep : RepT) (v : Value) (s : Vs) (path : ByteArray) (S D : Nat → Prop) (w : World) (y : Spot) (er : Int) (e : Ending) (w' : World) : Prop := ∃ s' S' D',e = .returned (.tuple #[spotV y,.int .i64 er]) ∧ Rep w' v s' S' D' ∧ Stp S D S' D' w w' ∧ FindR s path s'
theorem FindP.of {v : Value} {s : Vs} {path : ByteArray} {S D : Nat → Prop} {w w' : World} {y : Spot} {er : Int} {s' : Vs} {M S' D' : Nat → Prop} (A : At Rep w S D M w' v s' S' D') (h : FindR s path s') : FindP Rep v s path S D w y er (.returned (.tuple #[spotV y,.int .i64 er])) w' := ⟨s',S',D',rfl,A.rep,A.st,h⟩
theorem find_no_calls (hS : Stays Rep) {w : World} {v : Value} {s : Vs} {S D : Nat → Prop} (path : ByteArray) (hr : Rep w v s S D) (hn : path.size ≤ 100000) (hmx : Mx w) (hs : (spl path).2 ≠ 0) :
 Calls Tryz.prog 97 #[v,.string path] w (FindP Rep v s path S D w spot0 (spl path).2) := by
 have R0 := hQ_ (Blk.new_ w #[.int .u32 0,.string ⟨#[]⟩,.int .u32 0,.int .u8 0,.int .u32 0,.int .u32 0,.int .u32 0] 150)
 have hb0 := bX_ R0.out
 have A0 := hQ_ ((At.start hr).own hS hb0 (Nat.le_refl _) (by simp))
 have HSP := hQ_ (split_ok path _ hn (hmx.below hb0))
 unfold NamesR.SplE at HSP
 have HS := hQ_ hS
 have HFR := hQ_ (fndr_no (s := s) hs)
 have d1 : ((spl path).2 != 0) = true := by simpa using hs
 generalize (spl path).2 = er at *
 generalize (spl path).1 = L at *
 clear hb0 hr hS hs hmx
 go_enter Tryz.func97,Tryz.ntmps97
 go_wp2_with fail
 refine HSP.out.mono ?_
 rintro e w1 ⟨A,m,c,rfl,hso,hb1⟩
 have A1 := hQ_ (A0.out.below HS.out hb1)
 have R1 := hQ_ (R0.out.below hb1)
 clear hso hb1
 go_wp2_with ((with_reducible refine pick none ?_); refine store_blk rfl 150 _ _ rfl w.heap.size #[.int .u32 0,.string ⟨#[]⟩,.int .u32 0,.int .u8 0,.int .u32 0,.int .u32 0,.int .u32 0] rfl rfl 150 _ R1.out info_spot rfl (by simp [Value.oneCell']) ?_; intro w5 hk5 hg5)
 have A5 := A1.out.stored HS.out R1.out (.inr rfl) (by decide) hg5
 exact bodyPost_ret (v := .tuple #[.agg #[.int .u32 0,.string ⟨#[]⟩,.int .u32 0,.int .u8 0,.int .u32 0,.int .u32 0,.int .u32 0],.int .i64 er]) (results_row_tmp rfl _ _ w.heap.size 150 _ (0,0) _ rfl _ rfl hk5 Tryz.underlying150 rfl info_spot) rfl (FindP.of A5 HFR.out)
theorem find_yes_calls (hS : Stays Rep) (hG : GetOk Rep) (hB : Small Rep) {w : World} {v : Value} {s : Vs} {S D : Nat → Prop} (path : ByteArray) (hr : Rep w v s S D) (hl : Lim s) (hl2 : s.rd.length ≤ 19000) (hn : path.size ≤ 100000) (hmx : Mx w) (hs : (spl path).2 = 0) (y : Spot) (er : Int) (hf : findM s.shown path = (y,er)) :
 Calls Tryz.prog 97 #[v,.string path] w (FindP Rep v s path S D w y er) := by
 have R0 := hQ_ (Blk.new_ w #[.int .u32 0,.string ⟨#[]⟩,.int .u32 0,.int .u8 0,.int .u32 0,.int .u32 0,.int .u32 0] 150)
 have hb0 := bX_ R0.out
 have A0 := hQ_ ((At.start hr).own hS hb0 (Nat.le_refl _) (by simp))
 have HSP := hQ_ (split_ok path _ hn (hmx.below hb0))
 unfold NamesR.SplE at HSP
 have HS := hQ_ hS
 have HRT := hQ_ (fun (w1 : World) (S D : Nat → Prop) (hr : Rep w1 v s S D) => root_calls hS hG hB hr hl)
 have HWI := hQ_ (fun (w1 : World) (S D : Nat → Prop) (s1 : Vs) (dir : Int) (name : ByteArray) (hr : Rep w1 v s1 S D) (hl : Lim s1) (h2 : s1.rd.length ≤ 19900) (h0 : 0 ≤ dir) (h1 : dir ≤ 4294967295) (hn : name.size ≤ 100000) => within_calls hS hG hB dir name hr hl h2 h0 h1 hn)
 have HFS := hQ_ (fnd_start s s.shown)
 have HSM := hQ_ (spl_small path)
 have HFR := hQ_ (fun (s' : Vs) (x : Spot) (k : Nat) (h : Fnd s s' x k) (hk : k ≤ 16) (hy : er = 0 → y = x) => fndr_ok h hk hs hf hy)
 have HFM : Hid (findL s.shown ⟨0,⟨#[]⟩,1,(loadM s.shown 1).1⟩ (spl path).1 = (y,er)) := hQ_ (by rw [← find_yes hs]; exact hf)
 have HLM := hQ_ hl
 have HL2 := hQ_ hl2
 rw [hs] at HSP
 generalize hL : (spl path).1 = L at *
 generalize hX : (loadM s.shown 1).1 = xn at *
 obtain ⟨xk,xl,xz,xp⟩ := xn
 clear hb0 hr hl hl2 hS hG hB hs hmx hf hL hX
 go_enter Tryz.func97,Tryz.ntmps97
 go_wp2_with fail
 refine HSP.out.mono ?_
 rintro e w1 ⟨A,m,c,rfl,hso,hb1⟩
 have hmine : ∀ b,A = some ⟨b,0,none⟩ → (w.alloc (.cells #[.int .u32 0,.string ⟨#[]⟩,.int .u32 0,.int .u8 0,.int .u32 0,.int .u32 0,.int .u32 0] 150)).heap.size ≤ b ∧ b < w1.heap.size := fun b hb => hso.lt (g := b) (by rw [hb]; rfl)
 have hform : ∀ b o,A = some ⟨b,o,none⟩ → A = some ⟨b,0,none⟩ := fun b o hb => by
  rcases hso.form with ⟨h1,_⟩ | ⟨g,cap,h1,_⟩
  ·injection h1 with h1
   rw [hb] at h1
   cases h1
  ·injection h1 with h1
   rw [h1] at hb ⊢
   injection hb with hb
   injection hb with h2 h3
   rw [h2]
 have A1 := hQ_ (A0.out.owns HS.out hb1 hmine)
 have R1 := hQ_ (R0.out.below hb1)
 have HSL := hQ_ hso.sl
 have HFO := hQ_ hform
 have hm16 : m ≤ 16 := by rw [← hso.1]; exact HSM.out.1
 clear hso hb1 hmine hform
 go_wp2_with fail
 refine (HRT.out _ _ _ A1.out.rep).mono ?_
 rintro e w2 ⟨S2,D2,rfl,hr2,st2⟩
 have hb3 := bN_ w2 (.cells #[.int .u32 0,.string ⟨#[]⟩,.int .u32 1,.int .u8 xk,.int .u32 xl,.int .u32 xz,.int .u32 xp] 150)
 have hA2 := A1.out.step HS.out hr2 st2
 have HLT : Hid (w.heap.size < w2.heap.size) := hQ_ (hA2.mine _ (.inl (.inr rfl))).2.1
 have HLA : Hid (∀ b,A = some ⟨b,0,none⟩ → b < w2.heap.size) := hQ_ (fun b hb => (hA2.mine b (.inr hb)).2.1)
 have A3 := hQ_ (hA2.own HS.out hb3 (Nat.le_refl _) (by simp))
 have R3 := hQ_ ((A1.out.blk HS.out R1.out (.inl (.inr rfl)) st2).below hb3)
 have SL3 := hQ_ ((A1.out.sl HS.out HSL.out (fun b o e => .inr (HFO.out b o e)) st2).below hb3)
 have X3 := hQ_ (Blk.new_ w2 #[.int .u32 0,.string ⟨#[]⟩,.int .u32 1,.int .u8 xk,.int .u32 xl,.int .u32 xz,.int .u32 xp] 150)
 clear hr2 st2 hb3 hA2
 unfold spotV
 dsimp only
 go_wp2_with fail
 go_loopw [24] (fun i wr => ∃ (k : Nat) (x : Spot) (s' : Vs) (S' D' : Nat → Prop),k ≤ m ∧ i = .int .i64 k ∧ Hid (findL s.shown x (L.drop k) = (y,er)) ∧ Hid (At Rep w S D (fun b => ((False ∨ b = w.heap.size) ∨ A = some ⟨b,0,none⟩) ∨ b = w2.heap.size) wr v s' S' D') ∧ Hid (Blk wr w.heap.size #[.int .u32 0,.string ⟨#[]⟩,.int .u32 0,.int .u8 0,.int .u32 0,.int .u32 0,.int .u32 0] 150) ∧ Hid (Blk wr w2.heap.size #[.int .u32 x.dir,.string x.name,.int .u32 x.ino,.int .u8 x.node.k,.int .u32 x.node.l,.int .u32 x.node.s,.int .u32 x.node.p] 150) ∧ Hid (Sl txE wr A m L) ∧ Hid (Fnd s s' x k)) (fun i _ => m - (intOf i).toNat)
 case atStart => exact ⟨0,⟨0,⟨#[]⟩,1,⟨xk,xl,xz,xp⟩⟩,s.read (kI 1),S2,D2,Nat.zero_le _,rfl,HFM,A3,R3,X3,SL3,HFS⟩
 case round =>
  obtain ⟨k,x,s',S',D',hk,rfl,HF,HA,HR,HX,HSl,HFN⟩ := hrel
  by_cases hlt : k < m
  ·obtain ⟨name,g,o,hx,rfl,hg,hcl⟩ := HSl.out.get k hlt
   have c1 := tx_cell hcl
   have hnm : name.size ≤ 32 := HSM.out.2 name (List.mem_of_getElem? hx)
   have hfa := findl_at (L := s.shown) (x := x) hx
   rw [HF.out] at hfa
   obtain ⟨xd,xnm,xi,⟨nk,nl,ns,np⟩⟩ := x
   dsimp only at hfa HX
   have hbd := HFN.out.bd
   have b3 : 0 ≤ xi := hbd.i0
   have b4 : xi ≤ 4294967295 := hbd.i1
   obtain ⟨x2,x3⟩ : wr.cell? ⟨w2.heap.size,2,none⟩ = some (.int .u32 xi) ∧ wr.cell? ⟨w2.heap.size,3,none⟩ = some (.int .u8 nk) := ⟨HX.out.cell 2,HX.out.cell 3⟩
   have HFA := hQ_ hfa
   have hns : (name.size : Int) ≤ 32 := by omega
   clear hcl hx hfa hbd
   by_cases h0 : xi = 0
   ·subst h0
    have he := HFA.out
    rw [if_pos rfl] at he
    injection he with he1 he2
    subst he1
    subst he2
    have HP := hQ_ (HFR.out _ _ _ HFN.out (by omega) (fun h => absurd h (by decide)))
    clear b3 b4
    go_wp2_with ((with_reducible refine pick none ?_); refine store_blk rfl 150 _ _ rfl w.heap.size #[.int .u32 0,.string ⟨#[]⟩,.int .u32 0,.int .u8 0,.int .u32 0,.int .u32 0,.int .u32 0] rfl rfl 150 _ HR.out info_spot rfl (by simp [Value.oneCell']) ?_; intro w5 hk5 hg5)
    have A5 := HA.out.stored HS.out HR.out (.inl (.inl (.inr rfl))) (by decide) hg5
    exact bodyPost_ret (v := .tuple #[.agg #[.int .u32 0,.string ⟨#[]⟩,.int .u32 0,.int .u8 0,.int .u32 0,.int .u32 0,.int .u32 0],.int .i64 10]) (results_row_tmp rfl _ _ w.heap.size 150 _ (0,0) _ rfl _ rfl hk5 Tryz.underlying150 rfl info_spot) rfl (FindP.of A5 HP.out)
   ·have d1 : (xi == 0) = false := by rw [beq_eq_false_iff_ne]; exact h0
    by_cases h2 : nk ≠ 2
    ·have he := HFA.out
     rw [if_neg h0,if_pos h2] at he
     injection he with he1 he2
     subst he1
     subst he2
     have HP := hQ_ (HFR.out _ _ _ HFN.out (by omega) (fun h => absurd h (by decide)))
     have d2 : (nk != 2) = true := by simpa using h2
     clear b3 b4 h0 h2
     go_wp2_with ((with_reducible refine pick none ?_); refine store_blk rfl 150 _ _ rfl w.heap.size #[.int .u32 0,.string ⟨#[]⟩,.int .u32 0,.int .u8 0,.int .u32 0,.int .u32 0,.int .u32 0] rfl rfl 150 _ HR.out info_spot rfl (by simp [Value.oneCell']) ?_; intro w5 hk5 hg5)
     have A5 := HA.out.stored HS.out HR.out (.inl (.inl (.inr rfl))) (by decide) hg5
     exact bodyPost_ret (v := .tuple #[.agg #[.int .u32 0,.string ⟨#[]⟩,.int .u32 0,.int .u8 0,.int .u32 0,.int .u32 0,.int .u32 0],.int .i64 12]) (results_row_tmp rfl _ _ w.heap.size 150 _ (0,0) _ rfl _ rfl hk5 Tryz.underlying150 rfl info_spot) rfl (FindP.of A5 HP.out)
    ·have h2' : nk = 2 := Classical.byContradiction h2
     subst h2'
     have HN2 : Hid (findL s.shown (withinM s.shown xi name) (L.drop (k + 1)) = (y,er)) := hQ_ (by
      have he := HFA.out
      rw [if_neg h0,if_neg h2] at he
      exact he.symm)
     have HF2 : Hid (Fnd s (readW s' xi name) (withinM s.shown xi name) (k + 1)) := hQ_ (by
      have := HFN.out.step h0 hnm
      rw [HFN.out.shown] at this
      exact this)
     have hlim : Lim s' := ⟨by rw [HFN.out.base]; exact HLM.out.base,by have := HFN.out.lim HL2.out (by omega); omega,by rw [HFN.out.rg]; exact HLM.out.rg⟩
     have hwc := HWI.out wr S' D' s' xi name HA.out.rep hlim (HFN.out.lim HL2.out (by omega)) b3 b4 (by omega)
     rw [HFN.out.shown] at hwc
     unfold spotV at hwc
     have HWC := hQ_ hwc
     generalize withinM s.shown xi name = x' at *
     generalize readW s' xi name = s'' at *
     obtain ⟨yd,ynm,yi,⟨yk,yl,ys,yp⟩⟩ := x'
     dsimp only at HWC
     clear h0 h2 hlim hwc b3 b4 hnm HFA HFN
     go_wp2_with fail
     refine HWC.out.mono ?_
     rintro e w5 ⟨S5,D5,rfl,hr5,st5⟩
     have A5 := hQ_ (HA.out.step HS.out hr5 st5)
     have R5 := hQ_ (HA.out.blk HS.out HR.out (.inl (.inl (.inr rfl))) st5)
     have X5 := hQ_ (HA.out.blk HS.out HX.out (.inr rfl) st5)
     have SL5 := hQ_ (HA.out.sl HS.out HSl.out (fun b o e => .inl (.inr (HFO.out b o e))) st5)
     clear hr5 st5
     go_wp2_with ((with_reducible refine pick none ?_); refine store_blk rfl 150 _ _ rfl w2.heap.size #[.int .u32 yd,.string ynm,.int .u32 yi,.int .u8 yk,.int .u32 yl,.int .u32 ys,.int .u32 yp] rfl rfl 150 _ X5.out info_spot rfl (by simp [Value.oneCell']) ?_; intro w6 hk6 hg6)
     have hne : w.heap.size ≠ w2.heap.size := fun h => by have := HLT.out; omega
     have A6 := hQ_ (A5.out.stored HS.out X5.out (.inr rfl) (by decide) hg6)
     have R6 := hQ_ (R5.out.grown hg6 hne)
     have SL6 : Hid (Sl txE w6 (some ⟨g,o,none⟩) m L) := hQ_ (Chg.Sl.chg SL5.out (Chg.of_grown (S := fun b => b = w2.heap.size) hg6 (fun k e => .inl (by injection e with e; exact e.symm))) (fun b o e h => by have := HLA.out b (HFO.out b o e); omega))
     have K6 := hQ_ hk6
     clear hk6 hg6 hne
     go_wp2_with fail
     go_roundw
     case rel => exact ⟨k + 1,⟨yd,ynm,yi,⟨yk,yl,ys,yp⟩⟩,s'',S5,D5,by omega,by go_num,HN2,A6,R6,K6,SL6,HF2⟩
     case measure => simp [intOf]; omega
  ·obtain rfl : k = m := by omega
   have he := HF.out
   rw [findl_end s.shown x (by rw [HSl.out.1]; exact Nat.le_refl _)] at he
   injection he with he1 he2
   subst he1
   subst he2
   have HP := hQ_ (HFR.out _ _ _ HFN.out hm16 (fun _ => rfl))
   obtain ⟨xd,xnm,xi,⟨nk,nl,ns,np⟩⟩ := x
   dsimp only at HX
   go_wp2_with (first
    | ((with_reducible refine pick (some 45) ?_); refine load_blk rfl 150 _ rfl w2.heap.size rfl 150 _ _ HX.out Tryz.underlying150 rfl info_spot ?_)
    | ((with_reducible refine pick none ?_); refine store_blk rfl 150 _ _ rfl w.heap.size #[.int .u32 xd,.string xnm,.int .u32 xi,.int .u8 nk,.int .u32 nl,.int .u32 ns,.int .u32 np] rfl rfl 150 _ HR.out info_spot rfl (by simp [Value.oneCell']) ?_; intro w5 hk5 hg5))
   have A5 := HA.out.stored HS.out HR.out (.inl (.inl (.inr rfl))) (by decide) hg5
   exact bodyPost_ret (v := .tuple #[.agg #[.int .u32 xd,.string xnm,.int .u32 xi,.int .u8 nk,.int .u32 nl,.int .u32 ns,.int .u32 np],.int .i64 0]) (results_row_tmp rfl _ _ w.heap.size 150 _ (0,0) _ rfl _ rfl hk5 Tryz.underlying150 rfl info_spot) rfl (FindP.of A5 HP.out)
end Go.Proofs.YtogdjbhjgbnicaaGreatDoor.WalkKb
namespace Go.Proofs.YtogdjbhjgbnicaaGreatDoor.WalkE
open Go.RowKit
open Byte KeysM KeysR TreeM ViewM NodeM NamesM WalkM WalkF Lst Chg TreeR TreeL TreeG TreeH ViewR ViewL ViewP WalkL WalkD
open NamesL (Mx)
open Own hiding keeps
variable {Rep : RepT}
def FindOk (Rep : RepT) : Prop := ∀ ⦃w v s S D⦄ (path : ByteArray),Rep w v s S D → Lim s → s.rd.length ≤ 19000 → path.size ≤ 100000 → Mx w → Calls Tryz.prog 97 #[v,.string path] w fun e w' => ∃ s' S' D',
 e = .returned (.tuple #[.agg #[.int .u32 (findM s.shown path).1.dir,.string (findM s.shown path).1.name,.int .u32 (findM s.shown path).1.ino,.int .u8 (findM s.shown path).1.node.k,.int .u32 (findM s.shown path).1.node.l,.int .u32 (findM s.shown path).1.node.s,.int .u32 (findM s.shown path).1.node.p],.int .i64 (findM s.shown path).2]) ∧
 Rep w' v s' S' D' ∧ Stp S D S' D' w w' ∧ FindR s path s'
end Go.Proofs.YtogdjbhjgbnicaaGreatDoor.WalkE