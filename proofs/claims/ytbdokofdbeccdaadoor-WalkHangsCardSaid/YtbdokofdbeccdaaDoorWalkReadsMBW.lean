/- Merged: KeysL KeysC KeysB KeysD. -/
import Derived.Test.YtbdokofdbeccdaaDoorWalkReadsMBQ
import Derived.Deep.Onto
import Derived.Test.YtbdokofdbeccdaaDoorKeysV
import Derived.LoopTactic
import Derived.RegionTactic
import Derived.ChangeAlike
import Derived.Test.YtbdokofdbeccdaaDoorPackG
/- The walks of layer 9's laws, over what the project's functions are asked. -/
namespace Go.Proofs.YtbdokofdbeccdaaDoor.KeysL
set_option linter.unusedVariables false
set_option linter.unusedSimpArgs false
open Go.RowKit
open Go.Proofs.YtbdokofdbeccdaaDoor.Byte Go.Proofs.YtbdokofdbeccdaaDoor.KeysM Go.Proofs.YtbdokofdbeccdaaDoor.KeysR Go.Proofs.YtbdokofdbeccdaaDoor.KeysS Go.Proofs.YtbdokofdbeccdaaDoor.KeysN

/-- The call answers with this text; nothing that was there has changed. -/
def Txt (s : ByteArray) (w : World) (e : Ending) (w' : World) : Prop := e = .returned (.string s) ∧ Below w.heap.size w w'
def InodeOk : Prop := ∀ (ino : Int) (w : World), 0 ≤ ino → ino ≤ 4294967295 → Calls Tryd.prog 40 #[.int .u32 ino] w (Txt (kI ino) w)
def EntryOk : Prop := ∀ (ino : Int) (name : ByteArray) (w : World), 0 ≤ ino → ino ≤ 4294967295 → name.size ≤ 100000 → Calls Tryd.prog 26 #[.int .u32 ino, .string name] w (Txt (kE ino name) w)
def SplitOk : Prop := ∀ (key : ByteArray) (w : World), key.size ≤ 100000 → Calls Tryd.prog 33 #[.string key] w (SpE (sp key) w)
def NameOk : Prop := ∀ (s : ByteArray) (w : World), s.size ≤ 100000 → Calls Tryd.prog 73 #[.string s] w fun e w' => e = .returned (.bool (nameOk s)) ∧ Below w.heap.size w w'
end Go.Proofs.YtbdokofdbeccdaaDoor.KeysL

/- The contracts of layer 9's functions that make keys and their ranges. -/
namespace Go.Proofs.YtbdokofdbeccdaaDoor.KeysC
set_option linter.unusedVariables false
set_option linter.unusedSimpArgs false
open Go.RowKit
open Go.Proofs.YtbdokofdbeccdaaDoor.Byte Go.Proofs.YtbdokofdbeccdaaDoor.PackM Go.Proofs.YtbdokofdbeccdaaDoor.PackV Go.Proofs.YtbdokofdbeccdaaDoor.PackS Go.Proofs.YtbdokofdbeccdaaDoor.KeysM Go.Proofs.YtbdokofdbeccdaaDoor.KeysR Go.Proofs.YtbdokofdbeccdaaDoor.KeysS Go.Proofs.YtbdokofdbeccdaaDoor.KeysL Go.Proofs.YtbdokofdbeccdaaDoor.KeysV

set_option maxRecDepth 100000 in
set_option maxHeartbeats 1000000 in
theorem head_calls (c ino : Int) (w : World) (hc0 : 0 ≤ c) (hc1 : c ≤ 255) (h0 : 0 ≤ ino) (h1 : ino ≤ 4294967295) :
    Calls Tryd.prog 46 #[.int .u8 c, .int .u32 ino] w (Made (kq c ino) w) := by
  have hbw : Below w.heap.size w (w.alloc (.cells #[.int .u8 c] 5)) := (Below.refl _ _).alloc (Nat.le_refl _) _
  have HB := Lib.hid hbw
  have HP := Lib.hid (put_calls (some ⟨w.heap.size, 0, none⟩) 1 1 [c] 4 ino (w.alloc (.cells #[.int .u8 c] 5)) (Bs.new_ w 5 (0, 0) [c] (by intro z hz; rw [List.mem_singleton] at hz; omega)) (by omega) (by omega) (by omega))
  rw [kq_of] at HP
  have HL := Lib.hid (kq_len c ino)
  clear hbw
  obtain ⟨zs, hzs⟩ : ∃ z, kq c ino = z := ⟨_, rfl⟩
  rw [hzs] at HP HL ⊢
  clear hzs
  go_enter Tryd.func46, Tryd.ntmps46
  go_wp2_with (go_at_call 27; refine HP.out.mono ?_; intro e w2 hm; obtain ⟨g, cap, rfl, ho, hb2⟩ := hm.at_ HL.out; have HO : Hid (Ob w2 w.heap.size 5 g 5 cap zs) := Lib.hid ⟨ho.1, ho.2.1, World.ownsRow.mono ho.2.2 HB.out.size⟩; have HB2 := Lib.hid (keeps HB.out hb2); clear hm ho hb2)
  go_ret
  exact Made.of HL.out rfl HO.out HB2.out
set_option maxRecDepth 100000 in
set_option maxHeartbeats 400000 in
theorem inode_calls : InodeOk := by
  intro ino w h0 h1
  unfold Txt
  have HQ := Lib.hid (fun w => head_calls 73 ino w (by omega) (by omega) h0 h1)
  have HK : Hid (str (kq 73 ino) = kI ino) := Lib.hid rfl
  have HL := Lib.hid (kq_len 73 ino)
  obtain ⟨zs, hzs⟩ : ∃ z, kq 73 ino = z := ⟨_, rfl⟩
  obtain ⟨ss, hss⟩ : ∃ z, kI ino = z := ⟨_, rfl⟩
  rw [hzs] at HQ HK HL
  rw [hss] at HK ⊢
  clear hzs hss
  go_enter Tryd.func40, Tryd.ntmps40
  go_wp2_with (go_at_call 46; refine (HQ.out _).mono ?_; intro e w2 hm; obtain ⟨g, cap, rfl, ho, hb2⟩ := hm.at_ HL.out; have hs := ho.str_ (P := Tryd.prog) 67 9 Tryd.underlying67 Tryd.underlying5 Tryd.underlying9; rw [HK.out] at hs; have HB2 := Lib.hid hb2; clear hm ho hb2)
  go_ret
  exact ⟨rfl, HB2.out⟩
set_option maxRecDepth 100000 in
set_option maxHeartbeats 1000000 in
theorem entry_calls : EntryOk := by
  intro ino name w h0 h1 hn
  unfold Txt
  by_cases hl : 32 < name.size
  · have he : kE ino name = E0 := if_pos hl
    rw [he]
    have d : decide ((32 : Int) < (name.size : Int)) = true := by simp; omega
    clear he
    go_enter Tryd.func26, Tryd.ntmps26
    go_wp2_with fail
    go_ret
    exact ⟨rfl, Below.refl _ _⟩
  · have he : kE ino name = ks 69 ino ++ name := if_neg hl
    rw [he]
    have d : decide ((32 : Int) < (name.size : Int)) = false := by simp; omega
    have hs : ((ks 69 ino).size : Int) ≤ 8388608 := by rw [ks_size]; omega
    have hs2 : (name.size : Int) ≤ 8388608 := by omega
    have HQ := Lib.hid (fun w => head_calls 69 ino w (by omega) (by omega) h0 h1)
    have HK : Hid (str (kq 69 ino) = ks 69 ino) := Lib.hid rfl
    have HL := Lib.hid (kq_len 69 ino)
    obtain ⟨zs, hzs⟩ : ∃ z, kq 69 ino = z := ⟨_, rfl⟩
    obtain ⟨ss, hss⟩ : ∃ z, ks 69 ino = z := ⟨_, rfl⟩
    rw [hzs] at HQ HK HL
    rw [hss] at HK hs ⊢
    clear he hzs hss
    go_enter Tryd.func26, Tryd.ntmps26
    go_wp2_with (go_at_call 46; refine (HQ.out _).mono ?_; intro e w2 hm; obtain ⟨g, cap, rfl, ho, hb2⟩ := hm.at_ HL.out; have hst := ho.str_ (P := Tryd.prog) 67 9 Tryd.underlying67 Tryd.underlying5 Tryd.underlying9; rw [HK.out] at hst; have HB2 := Lib.hid hb2; clear hm ho hb2)
    go_ret
    exact ⟨rfl, HB2.out⟩
end Go.Proofs.YtbdokofdbeccdaaDoor.KeysC

/- The contracts of layer 9's ranges. -/
namespace Go.Proofs.YtbdokofdbeccdaaDoor.KeysB
set_option linter.unusedVariables false
set_option linter.unusedSimpArgs false
open Go.RowKit
open Go.Proofs.YtbdokofdbeccdaaDoor.Byte Go.Proofs.YtbdokofdbeccdaaDoor.PackM Go.Proofs.YtbdokofdbeccdaaDoor.PackV Go.Proofs.YtbdokofdbeccdaaDoor.PackS Go.Proofs.YtbdokofdbeccdaaDoor.KeysM Go.Proofs.YtbdokofdbeccdaaDoor.KeysR Go.Proofs.YtbdokofdbeccdaaDoor.KeysS Go.Proofs.YtbdokofdbeccdaaDoor.KeysL Go.Proofs.YtbdokofdbeccdaaDoor.KeysV Go.Proofs.YtbdokofdbeccdaaDoor.KeysC

theorem Bs.front {w : World} {g n : Nat} {xs : List Int} (h : Bs w (some ⟨g, 0, none⟩) n xs) (k : Nat) (hk : k ≤ n) : Bs w (some ⟨g, 0, none⟩) k (xs.take k) := by
  have := h.sub 0 k (by omega)
  simpa using this
theorem conv_front {w : World} {g n cap : Nat} {xs : List Int} (h : Bs w (some ⟨g, 0, none⟩) n xs) (k : Nat) (hk : k ≤ n) {s : ByteArray} (hs : str (xs.take k) = s) : (convert 67 9 (.slice (some ⟨g, 0, none⟩) k cap)).run Tryd.prog w = .ok (.string s) w := by
  subst hs
  exact (Bs.front h k hk).str_ 67 9 Tryd.underlying67 Tryd.underlying5 Tryd.underlying9
theorem conv_one_drew (w : World) (y : Int) (h0 : 0 ≤ y) (h1 : y ≤ 255) {s : ByteArray} (hs : str [y] = s) : (convert 67 9 (.slice (some ⟨w.heap.size, 0, none⟩) 1 1)).run Tryd.prog (w.alloc (.cells #[.int .u8 y] 5)).drew = .ok (.string s) (w.alloc (.cells #[.int .u8 y] 5)).drew := by
  subst hs
  exact ((Bs.new_ w 5 (0, 0) [y] (by intro z hz; simp at hz; omega)).below ((Below.refl _ _).drew)).str_ 67 9 Tryd.underlying67 Tryd.underlying5 Tryd.underlying9
set_option maxRecDepth 100000 in
set_option maxHeartbeats 2000000 in
theorem above_calls (g cap : Nat) (xs : List Int) (w : World) (hb : Bs w (some ⟨g, 0, none⟩) 5 xs) (hc : 5 ≤ cap) (h0 : xs.getD 0 0 < 255) :
    Calls Tryd.prog 54 #[.slice (some ⟨g, 0, none⟩) 5 cap] w fun e w' => ∃ S, e = .returned (.string S) ∧ Hid (Up xs S) ∧ Below w.heap.size w w' := by
  have HB := Lib.hid hb
  have H0 := Lib.hid h0
  clear hb h0
  go_enter Tryd.func54, Tryd.ntmps54
  go_wp2
  go_loop [3] (fun v => ∃ k : Nat, k < 5 ∧ v = .int .i64 k ∧ Hid (∀ j, k < j → j < 5 → xs.getD j 0 = 255)) (fun v => (intOf v).toNat)
  case atStart => exact ⟨4, by omega, rfl, Lib.hid (fun j h1 h2 => by omega)⟩
  case round =>
    obtain ⟨k, hk, rfl, HK⟩ := hrel
    have hcell := HB.out.at_ k hk
    rw [Nat.zero_add] at hcell
    have hbd := HB.out.bd k
    by_cases hx : xs.getD k 0 = 255
    · rw [hx] at hcell
      have hk1 : 0 < k := by
        rcases Nat.eq_zero_or_pos k with rfl | h
        · have := H0.out
          omega
        · exact h
      have HX := Lib.hid hx
      clear hx hbd
      go_wp2
      go_round
      case rel => exact ⟨k - 1, by omega, by go_num, Lib.hid (fun j h1 h2 => (by
        rcases Nat.lt_or_ge k j with h | h
        · exact HK.out j h h2
        · obtain rfl : j = k := by omega
          exact HX.out))⟩
      case measure => simp [intOf]; omega
    · have hUp : Up xs (str (xs.take k ++ [xs.getD k 0 + 1])) := ⟨k, by rw [HB.out.len]; exact hk, by omega, fun j h1 h2 => HK.out j h1 (by rw [← HB.out.len]; exact h2), txt_str _ (by
        intro z hz
        rcases List.mem_append.1 hz with h | h
        · exact HB.out.2.1 z (List.mem_of_mem_take h)
        · rw [List.mem_singleton] at h
          omega)⟩
      rw [← str_append] at hUp
      have HU := Lib.hid hUp
      have hy : (xs.getD k 0 == 255) = false := by rw [beq_eq_false_iff_ne]; exact hx
      have hz1 : ((str (xs.take k)).size : Int) ≤ 8388608 := by rw [str_size, List.length_take, HB.out.len]; omega
      have hz2 : ((str [xs.getD k 0 + 1]).size : Int) ≤ 8388608 := by rw [str_size]; simp
      generalize hyy : xs.getD k 0 = y at hcell hbd hx hy HU hz2
      obtain ⟨s1, hs1⟩ : ∃ s, str (xs.take k) = s := ⟨_, rfl⟩
      obtain ⟨s2, hs2⟩ : ∃ s, str [y + 1] = s := ⟨_, rfl⟩
      rw [hs1] at HU hz1
      rw [hs2] at HU hz2
      have hkc : k ≤ cap := by omega
      have hk5 : (k : Int) < 5 := by omega
      have c1 := conv_front (cap := cap) (HB.out.below ((Below.refl _ _).drew)) k (by omega) hs1
      have hb1 : Below w.heap.size w (w.alloc (.cells #[.int .u8 (y + 1)] 5)) := (Below.refl _ _).alloc (Nat.le_refl _) _
      have c3 := conv_front (cap := cap) (HB.out.below hb1.drew) k (by omega) hs1
      have c2 := conv_one_drew w (y + 1) (by omega) (by omega) hs2
      have r1 : IntKind.u8.wrap (y + 1) = y + 1 := by rw [IntKind.wrap_u8]; omega
      have hq9 : ¬ 9223372036854775807 < s1.size + s2.size := by omega
      have HBB := Lib.hid hb1
      clear hx hyy hs1 hs2 hUp hb1
      go_wp2
      go_region
      all_goals
        go_wp2
        go_ret
        exact ⟨_, rfl, HU, HBB.out.drew⟩
theorem kq_front (c ino : Int) : (kq c ino).getD 0 0 = c := rfl
theorem above_of {zs : List Int} {w w1 v : World} {g cap : Nat} {c : Int} (hf : zs.getD 0 0 = c) (hc : c < 255) (ho : Ob w1 w.heap.size 5 g 5 cap zs) (hv : Below w1.heap.size w1 v) :
    Calls Tryd.prog 54 #[.slice (some ⟨g, 0, none⟩) 5 cap] v fun e w' => ∃ S, e = .returned (.string S) ∧ Hid (Up zs S) ∧ Below v.heap.size v w' :=
  above_calls g cap zs v (ho.bs.below hv) ho.capLe (by rw [hf]; exact hc)
theorem conv_after {zs : List Int} {w1 v : World} {g cap : Nat} {s : ByteArray} (hb : Bs w1 (some ⟨g, 0, none⟩) 5 zs) (hs : str zs = s) (hv : Below w1.heap.size w1 v) :
    (convert 67 9 (.slice (some ⟨g, 0, none⟩) 5 cap)).run Tryd.prog v = .ok (.string s) v := by
  subst hs
  exact (hb.below hv).str_ 67 9 Tryd.underlying67 Tryd.underlying5 Tryd.underlying9
set_option maxRecDepth 100000 in
set_option maxHeartbeats 1000000 in
theorem up_size {xs : List Int} {S : ByteArray} (h : Up xs S) : S.size ≤ xs.length := by
  obtain ⟨k, hk, _, _, e⟩ := h
  have := congrArg List.length e
  rw [txt_len, List.length_append, List.length_take] at this
  simp at this
  omega
/-- Both ends are short, too. -/
theorem entries_small (ino : Int) (w : World) (h0 : 0 ≤ ino) (h1 : ino ≤ 4294967295) : Calls Tryd.prog 32 #[.int .u32 ino] w fun e w' => ∃ a b, e = .returned (.tuple #[.string a, .string b]) ∧ Hid (Rng a b fun s => decide (s.letter = 69) && decide (s.ino = ino)) ∧ a.size ≤ 7 ∧ b.size ≤ 7 ∧ Below w.heap.size w w' := by
  have HQ := Lib.hid (fun w => head_calls 69 ino w (by omega) (by omega) h0 h1)
  have HL := Lib.hid (kq_len 69 ino)
  have HF := Lib.hid (kq_front 69 ino)
  have HR : Hid (∀ a b, txt a = kq 69 ino → Up (kq 69 ino) b → Rng a b fun s => decide (s.letter = 69) && decide (s.ino = ino)) := Lib.hid (fun a b ha hb => rng_entries ha hb h0 h1)
  have HT := Lib.hid (ks_txt (c := 69) (ino := ino) (by omega) (by omega))
  have HK : Hid (str (kq 69 ino) = ks 69 ino) := Lib.hid rfl
  generalize ks 69 ino = ss at HT HK
  generalize kq 69 ino = zs at HQ HL HF HR HT HK
  go_enter Tryd.func32, Tryd.ntmps32
  go_wp2_with fail
  refine (HQ.out _).mono ?_
  intro e w2 hm
  obtain ⟨g, cap, rfl, ho, hb2⟩ := hm.at_ HL.out
  have HB2 := Lib.hid hb2
  have HO := Lib.hid ho
  have HBS := Lib.hid ho.bs
  have AB := Lib.hid (above_of HF.out (by omega) ho ((Below.refl _ _).drew))
  have c1 := conv_after (cap := cap) ho.bs HK.out ((Below.refl _ _).drew)
  clear hm ho hb2
  go_wp2_with fail
  go_region_law (go_simp; go_at_call 54; refine AB.out.mono ?_; rintro e w3 ⟨S, rfl, HU, hb3⟩; have c4 := conv_after (cap := cap) HBS.out HK.out (keeps ((Below.refl _ _).drew) hb3); have HB3 := Lib.hid (keeps HB2.out (keeps ((Below.refl _ _).drew) hb3)); clear hb3)
  all_goals
    go_wp2_with fail
    go_ret2
    exact ⟨ss, S, rfl, Lib.hid (HR.out ss S HT.out HU.out), by have := congrArg List.length HT.out; rw [txt_len, HL.out] at this; omega, by have := up_size HU.out; rw [HL.out] at this; omega, HB3.out⟩
end Go.Proofs.YtbdokofdbeccdaaDoor.KeysB

/- The contract of layer 9's Split. -/
namespace Go.Proofs.YtbdokofdbeccdaaDoor.KeysD
set_option linter.unusedVariables false
set_option linter.unusedSimpArgs false
open Go.RowKit
open Go.Proofs.YtbdokofdbeccdaaDoor.Byte Go.Proofs.YtbdokofdbeccdaaDoor.PackM Go.Proofs.YtbdokofdbeccdaaDoor.PackV Go.Proofs.YtbdokofdbeccdaaDoor.PackG Go.Proofs.YtbdokofdbeccdaaDoor.PackS Go.Proofs.YtbdokofdbeccdaaDoor.ConvS Go.Proofs.YtbdokofdbeccdaaDoor.KeysM Go.Proofs.YtbdokofdbeccdaaDoor.KeysR Go.Proofs.YtbdokofdbeccdaaDoor.KeysS Go.Proofs.YtbdokofdbeccdaaDoor.KeysL Go.Proofs.YtbdokofdbeccdaaDoor.KeysV Go.Proofs.YtbdokofdbeccdaaDoor.KeysC Go.Proofs.YtbdokofdbeccdaaDoor.KeysB Go.Proofs.YtbdokofdbeccdaaDoor.Still

set_option maxRecDepth 100000 in
set_option maxHeartbeats 1000000 in
theorem split_out (key : ByteArray) (w : World) (h : key.size < 5 ∨ 37 < key.size) (hk : key.size ≤ 100000) : Calls Tryd.prog 33 #[.string key] w (SpE (sp key) w) := by
  have hs : (key.size : Int) ≤ 9223372036854775807 := by omega
  have e : sp key = ⟨0, 0, E0, 0⟩ := by
    rcases h with h | h
    · exact sp_short h
    · exact sp_none (by omega) (by omega) (by omega)
  rw [e]
  rcases h with h | h
  · have d : decide ((key.size : Int) < 5) = true := by simp; omega
    clear h e
    go_enter Tryd.func33, Tryd.ntmps33
    go_wp2_with fail
    refine bodyPost_ret (results_tmp4 rfl _ _ _) rfl ?_
    exact ⟨rfl, Below.refl _ _⟩
  · have d : decide ((key.size : Int) < 5) = false := by simp; omega
    have d2 : decide ((37 : Int) < (key.size : Int)) = true := by simp; omega
    clear h e
    go_enter Tryd.func33, Tryd.ntmps33
    go_wp2_with fail
    refine bodyPost_ret (results_tmp4 rfl _ _ _) rfl ?_
    exact ⟨rfl, Below.refl _ _⟩
/-- What Split's walk knows of its key's bytes. -/
structure Fr (key : ByteArray) (w w1 : World) (n cap : Nat) (N y : Int) : Prop where
  size : key.size = n
  lo : 5 ≤ n
  hi : n ≤ 37
  fit : n ≤ cap
  run : (convert 9 67 (.string key)).run Tryd.prog w = .ok (.slice (some ⟨w.heap.size, 0, none⟩) n cap) w1
  get : Calls Tryd.prog 29 #[.slice (some ⟨w.heap.size, 0, none⟩) n cap, .int .i64 1, .int .i64 4] w1 fun e w' => e = .returned (.tuple #[.int .u64 N, .int .i64 5, .int .i64 0]) ∧ w1 = w'
  below : Below w.heap.size w w1
  bs : Bs w1 (some ⟨w.heap.size, 0, none⟩) n (txt key)
  num : getn (txt key) 1 4 = N
  first : (txt key).getD 0 0 = y
theorem fr_of (key : ByteArray) (w : World) (n : Nat) (hn : key.size = n) (h : 5 ≤ n) (h' : n ≤ 37) : ∃ w1 cap, Fr key w w1 n cap (getn (txt key) 1 4) ((txt key).getD 0 0) := by
  obtain ⟨cap, w1, hrun, hf, hb1⟩ := conv_key w key
  have hgo := g_ok (txt key) 1 4 (by have := txt_len key; omega) (by have := txt_len key; rw [show width 4 = 4 from rfl]; omega)
  have hget := get_calls (some ⟨w.heap.size, 0, none⟩) n cap (txt key) 1 4 w1 (by rw [← hn]; exact hf.bs) (by omega) (by omega) (by omega) (by omega) (by omega)
  rw [hgo.1, hgo.2.1, hgo.2.2] at hget
  rw [hn] at hrun
  exact ⟨w1, cap, hn, h, h', by rw [← hn]; exact hf.fit, hrun, hget, hb1, by rw [← hn]; exact hf.bs, rfl, rfl⟩
theorem rest_txt {key : ByteArray} {n : Nat} (hn : key.size = n) : str (((txt key).drop 5).take (n - 5)) = key.extract 5 n := by
  subst hn
  apply txt_inj
  rw [txt_str _ (fun x hx => txt_bd key x (List.mem_of_mem_drop (List.mem_of_mem_take hx))), txt_drop, List.take_of_length_le]
  rw [List.length_drop, txt_len]
  omega
theorem two_bytes {key : ByteArray} (hn : key.size = 7) : getn ((txt key).drop 5) 0 2 = 256 * (txt key).getD 5 0 + (txt key).getD 6 0 := by
  have hl : ((txt key).drop 5).length = 2 := by rw [List.length_drop, txt_len]; omega
  have g5 : (txt key).getD 5 0 = ((txt key).drop 5).getD 0 0 := by simp [List.getD_eq_getElem?_getD]
  have g6 : (txt key).getD 6 0 = ((txt key).drop 5).getD 1 0 := by simp [List.getD_eq_getElem?_getD]
  rw [g5, g6]
  generalize (txt key).drop 5 = r at hl
  match r, hl with
  | [p, q], _ =>
    simp [getn, unbe]
    omega
set_option maxRecDepth 100000 in
set_option maxHeartbeats 2000000 in
theorem split_i5a (key : ByteArray) (w w1 : World) (n cap : Nat) (N y : Int) (hf : Fr key w w1 n cap N y) (hy : y = 73) (hn : n = 5) (hc : cap = 5) : Calls Tryd.prog 33 #[.string key] w (SpE ⟨73, N, E0, 0⟩ w) := by
  have hs : (n : Int) ≤ 9223372036854775807 := by have := hf.hi; omega
  have hNb : 0 ≤ N ∧ N ≤ 4294967295 := by rw [← hf.num]; exact getn_bd key
  have hN0 := hNb.1
  have hN1 := hNb.2
  have r1 : IntKind.u32.wrap N = N := by rw [IntKind.wrap_u32]; omega
  have hrun := hf.run
  have HN := Lib.hid hf.size
  have HF := Lib.hid hf
  have hsz := hf.size
  have hc0 := hf.bs.at_ 0 (by have := hf.lo; omega)
  rw [hf.first, Nat.zero_add] at hc0
  have hlo := hf.lo
  have hhi := hf.hi
  have hcap := hf.fit
  subst hy
  subst hn
  subst hc
  have d : decide ((5 : Int) < 5) = false := by simp
  have d2 : decide ((37 : Int) < (5 : Int)) = false := by simp
  clear hf hNb
  go_enter Tryd.func33, Tryd.ntmps33
  go_wp2_with (first
    | ((with_reducible refine pick (some 25) ?_); refine wpList_conv rfl 9 67 _ rfl (.string key) (.slice (some ⟨w.heap.size, 0, none⟩) 5 5) rfl hrun ?_)
    | (go_at_call 29; (with_reducible refine HF.out.get.mono ?_); rintro e w2 ⟨rfl, rfl⟩))
  refine bodyPost_ret (results_tmp4 rfl _ _ _) rfl ?_
  exact ⟨rfl, HF.out.below⟩
set_option maxRecDepth 100000 in
set_option maxHeartbeats 2000000 in
theorem split_i5b (key : ByteArray) (w w1 : World) (n cap : Nat) (N y : Int) (hf : Fr key w w1 n cap N y) (hy : y = 73) (hn : n = 5) (hc : cap ≠ 5) : Calls Tryd.prog 33 #[.string key] w (SpE ⟨73, N, E0, 0⟩ w) := by
  have hs : (n : Int) ≤ 9223372036854775807 := by have := hf.hi; omega
  have hNb : 0 ≤ N ∧ N ≤ 4294967295 := by rw [← hf.num]; exact getn_bd key
  have hN0 := hNb.1
  have hN1 := hNb.2
  have r1 : IntKind.u32.wrap N = N := by rw [IntKind.wrap_u32]; omega
  have hrun := hf.run
  have HN := Lib.hid hf.size
  have HF := Lib.hid hf
  have hsz := hf.size
  have hc0 := hf.bs.at_ 0 (by have := hf.lo; omega)
  rw [hf.first, Nat.zero_add] at hc0
  have hlo := hf.lo
  have hhi := hf.hi
  have hcap := hf.fit
  subst hy
  subst hn
  have d : decide ((5 : Int) < 5) = false := by simp
  have d2 : decide ((37 : Int) < (5 : Int)) = false := by simp
  clear hf hNb
  go_enter Tryd.func33, Tryd.ntmps33
  go_wp2_with (first
    | ((with_reducible refine pick (some 25) ?_); refine wpList_conv rfl 9 67 _ rfl (.string key) (.slice (some ⟨w.heap.size, 0, none⟩) 5 cap) rfl hrun ?_)
    | (go_at_call 29; (with_reducible refine HF.out.get.mono ?_); rintro e w2 ⟨rfl, rfl⟩))
  refine bodyPost_ret (results_tmp4 rfl _ _ _) rfl ?_
  exact ⟨rfl, HF.out.below⟩
set_option maxRecDepth 100000 in
set_option maxHeartbeats 2000000 in
theorem split_i6 (key : ByteArray) (w w1 : World) (n cap : Nat) (N y : Int) (hf : Fr key w w1 n cap N y) (hy : y = 73) (hn : 5 < n) : Calls Tryd.prog 33 #[.string key] w (SpE ⟨0, 0, E0, 0⟩ w) := by
  have hs : (n : Int) ≤ 9223372036854775807 := by have := hf.hi; omega
  have hNb : 0 ≤ N ∧ N ≤ 4294967295 := by rw [← hf.num]; exact getn_bd key
  have hN0 := hNb.1
  have hN1 := hNb.2
  have r1 : IntKind.u32.wrap N = N := by rw [IntKind.wrap_u32]; omega
  have hrun := hf.run
  have HN := Lib.hid hf.size
  have HF := Lib.hid hf
  have hsz := hf.size
  have hc0 := hf.bs.at_ 0 (by have := hf.lo; omega)
  rw [hf.first, Nat.zero_add] at hc0
  have hlo := hf.lo
  have hhi := hf.hi
  have hcap := hf.fit
  subst hy
  have hc5 : ¬ cap = 5 := by omega
  have z0 : (((n - 5 : Nat) : Int) == 0) = false := by rw [beq_eq_false_iff_ne]; omega
  have z1 : decide (0 < n - 5) = true := by simp; omega
  have d : decide ((n : Int) < 5) = false := by simp; omega
  have d2 : decide ((37 : Int) < (n : Int)) = false := by simp; omega
  clear hf hNb
  go_enter Tryd.func33, Tryd.ntmps33
  go_wp2_with (first
    | ((with_reducible refine pick (some 25) ?_); refine wpList_conv rfl 9 67 _ rfl (.string key) (.slice (some ⟨w.heap.size, 0, none⟩) n cap) rfl hrun ?_)
    | (go_at_call 29; (with_reducible refine HF.out.get.mono ?_); rintro e w2 ⟨rfl, rfl⟩))
  refine bodyPost_ret (results_tmp4 rfl _ _ _) rfl ?_
  exact ⟨rfl, HF.out.below⟩
set_option maxRecDepth 100000 in
set_option maxHeartbeats 2000000 in
theorem split_e5a (key : ByteArray) (w w1 : World) (n cap : Nat) (N y : Int) (hf : Fr key w w1 n cap N y) (hy : y = 69) (hn : n = 5) (hc : cap = 5) : Calls Tryd.prog 33 #[.string key] w (SpE ⟨0, 0, E0, 0⟩ w) := by
  have hs : (n : Int) ≤ 9223372036854775807 := by have := hf.hi; omega
  have hNb : 0 ≤ N ∧ N ≤ 4294967295 := by rw [← hf.num]; exact getn_bd key
  have hN0 := hNb.1
  have hN1 := hNb.2
  have r1 : IntKind.u32.wrap N = N := by rw [IntKind.wrap_u32]; omega
  have hrun := hf.run
  have HN := Lib.hid hf.size
  have HF := Lib.hid hf
  have hsz := hf.size
  have hc0 := hf.bs.at_ 0 (by have := hf.lo; omega)
  rw [hf.first, Nat.zero_add] at hc0
  have hlo := hf.lo
  have hhi := hf.hi
  have hcap := hf.fit
  subst hy
  subst hn
  subst hc
  have d : decide ((5 : Int) < 5) = false := by simp
  have d2 : decide ((37 : Int) < (5 : Int)) = false := by simp
  clear hf hNb
  go_enter Tryd.func33, Tryd.ntmps33
  go_wp2_with (first
    | ((with_reducible refine pick (some 25) ?_); refine wpList_conv rfl 9 67 _ rfl (.string key) (.slice (some ⟨w.heap.size, 0, none⟩) 5 5) rfl hrun ?_)
    | (go_at_call 29; (with_reducible refine HF.out.get.mono ?_); rintro e w2 ⟨rfl, rfl⟩))
  refine bodyPost_ret (results_tmp4 rfl _ _ _) rfl ?_
  exact ⟨rfl, HF.out.below⟩
set_option maxRecDepth 100000 in
set_option maxHeartbeats 2000000 in
theorem split_e5b (key : ByteArray) (w w1 : World) (n cap : Nat) (N y : Int) (hf : Fr key w w1 n cap N y) (hy : y = 69) (hn : n = 5) (hc : cap ≠ 5) : Calls Tryd.prog 33 #[.string key] w (SpE ⟨0, 0, E0, 0⟩ w) := by
  have hs : (n : Int) ≤ 9223372036854775807 := by have := hf.hi; omega
  have hNb : 0 ≤ N ∧ N ≤ 4294967295 := by rw [← hf.num]; exact getn_bd key
  have hN0 := hNb.1
  have hN1 := hNb.2
  have r1 : IntKind.u32.wrap N = N := by rw [IntKind.wrap_u32]; omega
  have hrun := hf.run
  have HN := Lib.hid hf.size
  have HF := Lib.hid hf
  have hsz := hf.size
  have hc0 := hf.bs.at_ 0 (by have := hf.lo; omega)
  rw [hf.first, Nat.zero_add] at hc0
  have hlo := hf.lo
  have hhi := hf.hi
  have hcap := hf.fit
  subst hy
  subst hn
  have d : decide ((5 : Int) < 5) = false := by simp
  have d2 : decide ((37 : Int) < (5 : Int)) = false := by simp
  clear hf hNb
  go_enter Tryd.func33, Tryd.ntmps33
  go_wp2_with (first
    | ((with_reducible refine pick (some 25) ?_); refine wpList_conv rfl 9 67 _ rfl (.string key) (.slice (some ⟨w.heap.size, 0, none⟩) 5 cap) rfl hrun ?_)
    | (go_at_call 29; (with_reducible refine HF.out.get.mono ?_); rintro e w2 ⟨rfl, rfl⟩))
  refine bodyPost_ret (results_tmp4 rfl _ _ _) rfl ?_
  exact ⟨rfl, HF.out.below⟩
set_option maxRecDepth 100000 in
set_option maxHeartbeats 2000000 in
theorem split_e6 (key : ByteArray) (w w1 : World) (n cap : Nat) (N y : Int) (hf : Fr key w w1 n cap N y) (hy : y = 69) (hn : 5 < n) : Calls Tryd.prog 33 #[.string key] w (SpE ⟨69, N, key.extract 5 n, 0⟩ w) := by
  have hs : (n : Int) ≤ 9223372036854775807 := by have := hf.hi; omega
  have hNb : 0 ≤ N ∧ N ≤ 4294967295 := by rw [← hf.num]; exact getn_bd key
  have hN0 := hNb.1
  have hN1 := hNb.2
  have r1 : IntKind.u32.wrap N = N := by rw [IntKind.wrap_u32]; omega
  have hrun := hf.run
  have HN := Lib.hid hf.size
  have HF := Lib.hid hf
  have hsz := hf.size
  have hc0 := hf.bs.at_ 0 (by have := hf.lo; omega)
  rw [hf.first, Nat.zero_add] at hc0
  have hlo := hf.lo
  have hhi := hf.hi
  have hcap := hf.fit
  subst hy
  have hc5 : ¬ cap = 5 := by omega
  have z0 : (((n - 5 : Nat) : Int) == 0) = false := by rw [beq_eq_false_iff_ne]; omega
  have z1 : decide (0 < n - 5) = true := by simp; omega
  have hb := (hf.bs.sub 5 (n - 5) (by omega)).below ((Below.refl _ _).drew)
  have hcv := hb.str_ (P := Tryd.prog) (c := cap - 5) 67 9 Tryd.underlying67 Tryd.underlying5 Tryd.underlying9
  rw [rest_txt hf.size, Nat.zero_add] at hcv
  have HBD := Lib.hid (hf.below.drew)
  clear hb
  have d : decide ((n : Int) < 5) = false := by simp; omega
  have d2 : decide ((37 : Int) < (n : Int)) = false := by simp; omega
  clear hf hNb
  go_enter Tryd.func33, Tryd.ntmps33
  go_wp2_with (first
    | ((with_reducible refine pick (some 25) ?_); refine wpList_conv rfl 9 67 _ rfl (.string key) (.slice (some ⟨w.heap.size, 0, none⟩) n cap) rfl hrun ?_)
    | (go_at_call 29; (with_reducible refine HF.out.get.mono ?_); rintro e w2 ⟨rfl, rfl⟩))
  refine lit_drew (by kernel_rfl) (by kernel_rfl) ?_
  refine still_val (.int .u8 69) (by kernel_rfl) (by kernel_rfl) ?_
  refine still_val (.int .u32 N) (by kernel_rfl) (by kernel_rfl) ?_
  refine still_val (.slice (some ⟨w.heap.size, 5, none⟩) (n - 5) (cap - 5)) (by kernel_rfl) (by kernel_rfl) ?_
  refine still_val (.string (key.extract 5 n)) (by kernel_rfl) (still_conv (u := .slice (some ⟨w.heap.size, 5, none⟩) (n - 5) (cap - 5)) rfl (by kernel_rfl) hcv) ?_
  refine still_val (.int .u8 69) (by kernel_rfl) (by kernel_rfl) ?_
  refine still_val (.int .u32 N) (by kernel_rfl) (by kernel_rfl) ?_
  refine still_val (.string (key.extract 5 n)) (by kernel_rfl) (by kernel_rfl) ?_
  refine still_val (.int .i64 0) (by kernel_rfl) (by kernel_rfl) ?_
  refine still_end ?_
  simp only [Act.put, List.setIfInBounds_toArray, List.set_cons_zero, List.set_cons_succ]
  go_wp2_with fail
  refine bodyPost_ret (results_tmp4 rfl _ _ _) rfl ?_
  exact ⟨rfl, HBD.out⟩
set_option maxRecDepth 100000 in
set_option maxHeartbeats 2000000 in
theorem split_d5a (key : ByteArray) (w w1 : World) (n cap : Nat) (N y : Int) (hf : Fr key w w1 n cap N y) (hy : y = 68) (hn : n = 5) (hc : cap = 5) : Calls Tryd.prog 33 #[.string key] w (SpE ⟨0, 0, E0, 0⟩ w) := by
  have hs : (n : Int) ≤ 9223372036854775807 := by have := hf.hi; omega
  have hNb : 0 ≤ N ∧ N ≤ 4294967295 := by rw [← hf.num]; exact getn_bd key
  have hN0 := hNb.1
  have hN1 := hNb.2
  have r1 : IntKind.u32.wrap N = N := by rw [IntKind.wrap_u32]; omega
  have hrun := hf.run
  have HN := Lib.hid hf.size
  have HF := Lib.hid hf
  have hsz := hf.size
  have hc0 := hf.bs.at_ 0 (by have := hf.lo; omega)
  rw [hf.first, Nat.zero_add] at hc0
  have hlo := hf.lo
  have hhi := hf.hi
  have hcap := hf.fit
  subst hy
  subst hn
  subst hc
  have d : decide ((5 : Int) < 5) = false := by simp
  have d2 : decide ((37 : Int) < (5 : Int)) = false := by simp
  clear hf hNb
  go_enter Tryd.func33, Tryd.ntmps33
  go_wp2_with (first
    | ((with_reducible refine pick (some 25) ?_); refine wpList_conv rfl 9 67 _ rfl (.string key) (.slice (some ⟨w.heap.size, 0, none⟩) 5 5) rfl hrun ?_)
    | (go_at_call 29; (with_reducible refine HF.out.get.mono ?_); rintro e w2 ⟨rfl, rfl⟩))
  refine bodyPost_ret (results_tmp4 rfl _ _ _) rfl ?_
  exact ⟨rfl, HF.out.below⟩
set_option maxRecDepth 100000 in
set_option maxHeartbeats 2000000 in
theorem split_d5b (key : ByteArray) (w w1 : World) (n cap : Nat) (N y : Int) (hf : Fr key w w1 n cap N y) (hy : y = 68) (hn : n = 5) (hc : cap ≠ 5) : Calls Tryd.prog 33 #[.string key] w (SpE ⟨0, 0, E0, 0⟩ w) := by
  have hs : (n : Int) ≤ 9223372036854775807 := by have := hf.hi; omega
  have hNb : 0 ≤ N ∧ N ≤ 4294967295 := by rw [← hf.num]; exact getn_bd key
  have hN0 := hNb.1
  have hN1 := hNb.2
  have r1 : IntKind.u32.wrap N = N := by rw [IntKind.wrap_u32]; omega
  have hrun := hf.run
  have HN := Lib.hid hf.size
  have HF := Lib.hid hf
  have hsz := hf.size
  have hc0 := hf.bs.at_ 0 (by have := hf.lo; omega)
  rw [hf.first, Nat.zero_add] at hc0
  have hlo := hf.lo
  have hhi := hf.hi
  have hcap := hf.fit
  subst hy
  subst hn
  have d : decide ((5 : Int) < 5) = false := by simp
  have d2 : decide ((37 : Int) < (5 : Int)) = false := by simp
  clear hf hNb
  go_enter Tryd.func33, Tryd.ntmps33
  go_wp2_with (first
    | ((with_reducible refine pick (some 25) ?_); refine wpList_conv rfl 9 67 _ rfl (.string key) (.slice (some ⟨w.heap.size, 0, none⟩) 5 cap) rfl hrun ?_)
    | (go_at_call 29; (with_reducible refine HF.out.get.mono ?_); rintro e w2 ⟨rfl, rfl⟩))
  refine bodyPost_ret (results_tmp4 rfl _ _ _) rfl ?_
  exact ⟨rfl, HF.out.below⟩
set_option maxRecDepth 100000 in
set_option maxHeartbeats 2000000 in
theorem split_d6 (key : ByteArray) (w w1 : World) (n cap : Nat) (N y : Int) (hf : Fr key w w1 n cap N y) (hy : y = 68) (hn : 5 < n) (h7 : n ≠ 7) : Calls Tryd.prog 33 #[.string key] w (SpE ⟨0, 0, E0, 0⟩ w) := by
  have hs : (n : Int) ≤ 9223372036854775807 := by have := hf.hi; omega
  have hNb : 0 ≤ N ∧ N ≤ 4294967295 := by rw [← hf.num]; exact getn_bd key
  have hN0 := hNb.1
  have hN1 := hNb.2
  have r1 : IntKind.u32.wrap N = N := by rw [IntKind.wrap_u32]; omega
  have hrun := hf.run
  have HN := Lib.hid hf.size
  have HF := Lib.hid hf
  have hsz := hf.size
  have hc0 := hf.bs.at_ 0 (by have := hf.lo; omega)
  rw [hf.first, Nat.zero_add] at hc0
  have hlo := hf.lo
  have hhi := hf.hi
  have hcap := hf.fit
  subst hy
  have hc5 : ¬ cap = 5 := by omega
  have z0 : (((n - 5 : Nat) : Int) == 0) = false := by rw [beq_eq_false_iff_ne]; omega
  have z1 : decide (0 < n - 5) = true := by simp; omega
  have z2 : (((n - 5 : Nat) : Int) == 2) = false := by rw [beq_eq_false_iff_ne]; omega
  have d : decide ((n : Int) < 5) = false := by simp; omega
  have d2 : decide ((37 : Int) < (n : Int)) = false := by simp; omega
  clear hf hNb
  go_enter Tryd.func33, Tryd.ntmps33
  go_wp2_with (first
    | ((with_reducible refine pick (some 25) ?_); refine wpList_conv rfl 9 67 _ rfl (.string key) (.slice (some ⟨w.heap.size, 0, none⟩) n cap) rfl hrun ?_)
    | (go_at_call 29; (with_reducible refine HF.out.get.mono ?_); rintro e w2 ⟨rfl, rfl⟩))
  refine bodyPost_ret (results_tmp4 rfl _ _ _) rfl ?_
  exact ⟨rfl, HF.out.below⟩
set_option maxRecDepth 100000 in
set_option maxHeartbeats 2000000 in
theorem split_d7 (key : ByteArray) (w w1 : World) (n cap : Nat) (N y : Int) (hf : Fr key w w1 n cap N y) (hy : y = 68) (h7 : n = 7) : Calls Tryd.prog 33 #[.string key] w (SpE ⟨68, N, E0, 256 * (txt key).getD 5 0 + (txt key).getD 6 0⟩ w) := by
  have hs : (n : Int) ≤ 9223372036854775807 := by have := hf.hi; omega
  have hNb : 0 ≤ N ∧ N ≤ 4294967295 := by rw [← hf.num]; exact getn_bd key
  have hN0 := hNb.1
  have hN1 := hNb.2
  have r1 : IntKind.u32.wrap N = N := by rw [IntKind.wrap_u32]; omega
  have hrun := hf.run
  have HN := Lib.hid hf.size
  have HF := Lib.hid hf
  have hsz := hf.size
  have hc0 := hf.bs.at_ 0 (by have := hf.lo; omega)
  rw [hf.first, Nat.zero_add] at hc0
  have hlo := hf.lo
  have hhi := hf.hi
  have hcap := hf.fit
  subst hy
  subst h7
  have hc5 : ¬ cap = 5 := by omega
  have hb := hf.bs.sub 5 2 (by omega)
  have hl2 : ((txt key).drop 5).length = 2 := by rw [List.length_drop, txt_len]; omega
  rw [List.take_of_length_le (by omega), Nat.zero_add] at hb
  have hgo := g_ok ((txt key).drop 5) 0 2 (by omega) (by rw [show width 2 = 2 from rfl]; omega)
  have hget := get_calls (some ⟨w.heap.size, 5, none⟩) 2 (cap - 5) ((txt key).drop 5) 0 2 w1 hb (by omega) (by omega) (by omega) (by omega) (by omega)
  rw [hgo.1, hgo.2.1, hgo.2.2] at hget
  have e2 : getn ((txt key).drop 5) (Int.toNat 0) (width 2) = 256 * (txt key).getD 5 0 + (txt key).getD 6 0 := two_bytes hf.size
  have hbb : 0 ≤ 256 * (txt key).getD 5 0 + (txt key).getD 6 0 ∧ 256 * (txt key).getD 5 0 + (txt key).getD 6 0 ≤ 65535 := by
    have a := hf.bs.bd 5
    have b := hf.bs.bd 6
    omega
  rw [e2] at hget
  have HG2 := Lib.hid hget
  generalize 256 * (txt key).getD 5 0 + (txt key).getD 6 0 = M at HG2 hbb ⊢
  have hb0 := hbb.1
  have hb1 := hbb.2
  have r2 : IntKind.i64.wrap M = M := by rw [IntKind.wrap_i64]; omega
  clear hb hl2 hgo hget e2 hbb
  have d : decide ((7 : Int) < 5) = false := by simp
  have d2 : decide ((37 : Int) < (7 : Int)) = false := by simp
  clear hf hNb
  go_enter Tryd.func33, Tryd.ntmps33
  go_wp2_with (first
    | ((with_reducible refine pick (some 25) ?_); refine wpList_conv rfl 9 67 _ rfl (.string key) (.slice (some ⟨w.heap.size, 0, none⟩) 7 cap) rfl hrun ?_)
    | (go_at_call 29; (with_reducible refine HF.out.get.mono ?_); rintro e w2 ⟨rfl, rfl⟩)
    | (go_at_call 29; (with_reducible refine HG2.out.mono ?_); rintro e w2 ⟨rfl, rfl⟩))
  refine bodyPost_ret (results_tmp4 rfl _ _ _) rfl ?_
  exact ⟨rfl, HF.out.below⟩
set_option maxRecDepth 100000 in
set_option maxHeartbeats 2000000 in
theorem split_o5a (key : ByteArray) (w w1 : World) (n cap : Nat) (N y : Int) (hf : Fr key w w1 n cap N y) (hy : y ≠ 73 ∧ y ≠ 69 ∧ y ≠ 68) (hn : n = 5) (hc : cap = 5) : Calls Tryd.prog 33 #[.string key] w (SpE ⟨0, 0, E0, 0⟩ w) := by
  have hs : (n : Int) ≤ 9223372036854775807 := by have := hf.hi; omega
  have hNb : 0 ≤ N ∧ N ≤ 4294967295 := by rw [← hf.num]; exact getn_bd key
  have hN0 := hNb.1
  have hN1 := hNb.2
  have r1 : IntKind.u32.wrap N = N := by rw [IntKind.wrap_u32]; omega
  have hrun := hf.run
  have HN := Lib.hid hf.size
  have HF := Lib.hid hf
  have hsz := hf.size
  have hc0 := hf.bs.at_ 0 (by have := hf.lo; omega)
  rw [hf.first, Nat.zero_add] at hc0
  have hlo := hf.lo
  have hhi := hf.hi
  have hcap := hf.fit
  have t1 : (y == 73) = false := by rw [beq_eq_false_iff_ne]; omega
  have t2 : (y == 69) = false := by rw [beq_eq_false_iff_ne]; omega
  have t3 : (y == 68) = false := by rw [beq_eq_false_iff_ne]; omega
  subst hn
  subst hc
  have d : decide ((5 : Int) < 5) = false := by simp
  have d2 : decide ((37 : Int) < (5 : Int)) = false := by simp
  clear hf hNb
  go_enter Tryd.func33, Tryd.ntmps33
  go_wp2_with (first
    | ((with_reducible refine pick (some 25) ?_); refine wpList_conv rfl 9 67 _ rfl (.string key) (.slice (some ⟨w.heap.size, 0, none⟩) 5 5) rfl hrun ?_)
    | (go_at_call 29; (with_reducible refine HF.out.get.mono ?_); rintro e w2 ⟨rfl, rfl⟩))
  refine bodyPost_ret (results_tmp4 rfl _ _ _) rfl ?_
  exact ⟨rfl, HF.out.below⟩
set_option maxRecDepth 100000 in
set_option maxHeartbeats 2000000 in
theorem split_o5b (key : ByteArray) (w w1 : World) (n cap : Nat) (N y : Int) (hf : Fr key w w1 n cap N y) (hy : y ≠ 73 ∧ y ≠ 69 ∧ y ≠ 68) (hn : n = 5) (hc : cap ≠ 5) : Calls Tryd.prog 33 #[.string key] w (SpE ⟨0, 0, E0, 0⟩ w) := by
  have hs : (n : Int) ≤ 9223372036854775807 := by have := hf.hi; omega
  have hNb : 0 ≤ N ∧ N ≤ 4294967295 := by rw [← hf.num]; exact getn_bd key
  have hN0 := hNb.1
  have hN1 := hNb.2
  have r1 : IntKind.u32.wrap N = N := by rw [IntKind.wrap_u32]; omega
  have hrun := hf.run
  have HN := Lib.hid hf.size
  have HF := Lib.hid hf
  have hsz := hf.size
  have hc0 := hf.bs.at_ 0 (by have := hf.lo; omega)
  rw [hf.first, Nat.zero_add] at hc0
  have hlo := hf.lo
  have hhi := hf.hi
  have hcap := hf.fit
  have t1 : (y == 73) = false := by rw [beq_eq_false_iff_ne]; omega
  have t2 : (y == 69) = false := by rw [beq_eq_false_iff_ne]; omega
  have t3 : (y == 68) = false := by rw [beq_eq_false_iff_ne]; omega
  subst hn
  have d : decide ((5 : Int) < 5) = false := by simp
  have d2 : decide ((37 : Int) < (5 : Int)) = false := by simp
  clear hf hNb
  go_enter Tryd.func33, Tryd.ntmps33
  go_wp2_with (first
    | ((with_reducible refine pick (some 25) ?_); refine wpList_conv rfl 9 67 _ rfl (.string key) (.slice (some ⟨w.heap.size, 0, none⟩) 5 cap) rfl hrun ?_)
    | (go_at_call 29; (with_reducible refine HF.out.get.mono ?_); rintro e w2 ⟨rfl, rfl⟩))
  refine bodyPost_ret (results_tmp4 rfl _ _ _) rfl ?_
  exact ⟨rfl, HF.out.below⟩
set_option maxRecDepth 100000 in
set_option maxHeartbeats 2000000 in
theorem split_o6 (key : ByteArray) (w w1 : World) (n cap : Nat) (N y : Int) (hf : Fr key w w1 n cap N y) (hy : y ≠ 73 ∧ y ≠ 69 ∧ y ≠ 68) (hn : 5 < n) : Calls Tryd.prog 33 #[.string key] w (SpE ⟨0, 0, E0, 0⟩ w) := by
  have hs : (n : Int) ≤ 9223372036854775807 := by have := hf.hi; omega
  have hNb : 0 ≤ N ∧ N ≤ 4294967295 := by rw [← hf.num]; exact getn_bd key
  have hN0 := hNb.1
  have hN1 := hNb.2
  have r1 : IntKind.u32.wrap N = N := by rw [IntKind.wrap_u32]; omega
  have hrun := hf.run
  have HN := Lib.hid hf.size
  have HF := Lib.hid hf
  have hsz := hf.size
  have hc0 := hf.bs.at_ 0 (by have := hf.lo; omega)
  rw [hf.first, Nat.zero_add] at hc0
  have hlo := hf.lo
  have hhi := hf.hi
  have hcap := hf.fit
  have t1 : (y == 73) = false := by rw [beq_eq_false_iff_ne]; omega
  have t2 : (y == 69) = false := by rw [beq_eq_false_iff_ne]; omega
  have t3 : (y == 68) = false := by rw [beq_eq_false_iff_ne]; omega
  have hc5 : ¬ cap = 5 := by omega
  have z0 : (((n - 5 : Nat) : Int) == 0) = false := by rw [beq_eq_false_iff_ne]; omega
  have z1 : decide (0 < n - 5) = true := by simp; omega
  have d : decide ((n : Int) < 5) = false := by simp; omega
  have d2 : decide ((37 : Int) < (n : Int)) = false := by simp; omega
  clear hf hNb
  go_enter Tryd.func33, Tryd.ntmps33
  go_wp2_with (first
    | ((with_reducible refine pick (some 25) ?_); refine wpList_conv rfl 9 67 _ rfl (.string key) (.slice (some ⟨w.heap.size, 0, none⟩) n cap) rfl hrun ?_)
    | (go_at_call 29; (with_reducible refine HF.out.get.mono ?_); rintro e w2 ⟨rfl, rfl⟩))
  refine bodyPost_ret (results_tmp4 rfl _ _ _) rfl ?_
  exact ⟨rfl, HF.out.below⟩
theorem split_calls : SplitOk := by
  intro key w hk
  by_cases hr : key.size < 5 ∨ 37 < key.size
  · exact split_out key w hr hk
  obtain ⟨n, hn⟩ : ∃ n, key.size = n := ⟨_, rfl⟩
  obtain ⟨w1, cap, hf⟩ := fr_of key w n hn (by omega) (by omega)
  have hlo := hf.lo
  have hhi := hf.hi
  have hcap := hf.fit
  have hfirst := hf.first
  have hsz := hf.size
  by_cases h3 : (txt key).getD 0 0 = 73
  · by_cases h5 : n = 5
    · rw [sp_73 h3 (by omega)]
      by_cases hc : cap = 5
      · exact split_i5a key w w1 n cap _ _ hf h3 h5 hc
      · exact split_i5b key w w1 n cap _ _ hf h3 h5 hc
    · rw [sp_none (by omega) (by omega) (by omega)]
      exact split_i6 key w w1 n cap _ _ hf h3 (by omega)
  by_cases h9 : (txt key).getD 0 0 = 69
  · by_cases h5 : n = 5
    · rw [sp_none (by omega) (by omega) (by omega)]
      by_cases hc : cap = 5
      · exact split_e5a key w w1 n cap _ _ hf h9 h5 hc
      · exact split_e5b key w w1 n cap _ _ hf h9 h5 hc
    · rw [sp_69 h9 (by omega) (by omega), hn]
      exact split_e6 key w w1 n cap _ _ hf h9 (by omega)
  by_cases h8 : (txt key).getD 0 0 = 68
  · by_cases h5 : n = 5
    · rw [sp_none (by omega) (by omega) (by omega)]
      by_cases hc : cap = 5
      · exact split_d5a key w w1 n cap _ _ hf h8 h5 hc
      · exact split_d5b key w w1 n cap _ _ hf h8 h5 hc
    · by_cases h7 : n = 7
      · rw [sp_68 h8 (by omega)]
        exact split_d7 key w w1 n cap _ _ hf h8 h7
      · rw [sp_none (by omega) (by omega) (by omega)]
        exact split_d6 key w w1 n cap _ _ hf h8 (by omega) h7
  rw [sp_none (by omega) (by omega) (by omega)]
  by_cases h5 : n = 5
  · by_cases hc : cap = 5
    · exact split_o5a key w w1 n cap _ _ hf ⟨h3, h9, h8⟩ h5 hc
    · exact split_o5b key w w1 n cap _ _ hf ⟨h3, h9, h8⟩ h5 hc
  · exact split_o6 key w w1 n cap _ _ hf ⟨h3, h9, h8⟩ (by omega)
end Go.Proofs.YtbdokofdbeccdaaDoor.KeysD
