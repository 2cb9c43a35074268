/- The contracts of the document's answer for layer 9. -/
import Derived.Test.YtbdokofdbeccdaaDoorKeysM
import Derived.Test.YtbdokofdbeccdaaDoorPackH
import Derived.Test.YtbdokofdbeccdaaDoorConvS
import Derived.WalkLawsBesides
import Derived.WalkSpells
import Derived.Laws.Concat
import Derived.Deep.RegionHeld3
import Derived.Deep.QuietTactic
import Derived.BigQuiet
import Derived.Deep.RegionLaw
import Derived.BigRegion
namespace Go.Proofs.YtbdokofdbeccdaaDoor.KeysR
set_option linter.unusedVariables false
set_option linter.unusedSimpArgs false
open Go.RowKit
open Go.Proofs.YtbdokofdbeccdaaDoor.Byte Go.Proofs.YtbdokofdbeccdaaDoor.PackM Go.Proofs.YtbdokofdbeccdaaDoor.PackV Go.Proofs.YtbdokofdbeccdaaDoor.PackS Go.Proofs.YtbdokofdbeccdaaDoor.PackH Go.Proofs.YtbdokofdbeccdaaDoor.ConvS Go.Proofs.YtbdokofdbeccdaaDoor.KeysM

theorem keeps {w v v' : World} (h : Below w.heap.size w v) (hb : Below v.heap.size v v') : Below w.heap.size w v' := h.trans (hb.mono h.size)
theorem kq_of (c ino : Int) : [c] ++ low (width 4) ino = kq c ino := rfl
set_option maxRecDepth 100000 in
set_option maxHeartbeats 1000000 in
theorem refq_calls (c ino : Int) (w : World) (hc0 : 0 ≤ c) (hc1 : c ≤ 255) (h0 : 0 ≤ ino) (h1 : ino ≤ 4294967295) :
    Calls Tryd.prog 35 #[.int .u8 c, .int .u32 ino] w fun e w' => e = .returned (.string (ks c ino)) ∧ Below w.heap.size w w' := by
  have hbw : Below w.heap.size w (w.alloc (.cells #[.int .u8 c] 5)) := (Below.refl _ _).alloc (Nat.le_refl _) _
  have HB := Lib.hid hbw
  have HP := Lib.hid (refput_calls (some ⟨w.heap.size, 0, none⟩) 1 1 [c] 4 ino (w.alloc (.cells #[.int .u8 c] 5)) (Bs.new_ w 5 (0, 0) [c] (by intro z hz; rw [List.mem_singleton] at hz; omega)) (fun e => by cases e) (by omega) (by omega) (by omega) h0 (by omega))
  rw [kq_of] at HP
  have HL := Lib.hid (kq_len c ino)
  have HK : Hid (str (kq c ino) = ks c ino) := Lib.hid rfl
  clear hbw
  obtain ⟨zs, hzs⟩ : ∃ z, kq c ino = z := ⟨_, rfl⟩
  obtain ⟨ss, hss⟩ : ∃ z, ks c ino = z := ⟨_, rfl⟩
  rw [hzs] at HP HL HK
  rw [hss] at HK ⊢
  clear hzs hss
  go_enter Tryd.func35, Tryd.ntmps35
  go_wp2_with (go_at_call 43; refine HP.out.mono ?_; intro e w2 hm; obtain ⟨g, cap, rfl, ho, hb2⟩ := hm.at_ HL.out; have hs := ho.str_ (P := Tryd.prog) 67 9 Tryd.underlying67 Tryd.underlying5 Tryd.underlying9; rw [HK.out] at hs; have HB2 := Lib.hid (keeps HB.out hb2); clear hm ho hb2)
  go_ret
  exact ⟨rfl, HB2.out⟩
set_option maxRecDepth 100000 in
set_option maxHeartbeats 400000 in
theorem refI_calls (ino : Int) (w : World) (h0 : 0 ≤ ino) (h1 : ino ≤ 4294967295) :
    Calls Tryd.prog 19 #[.int .u32 ino] w fun e w' => e = .returned (.string (kI ino)) ∧ Below w.heap.size w w' := by
  have HQ := Lib.hid (fun w => refq_calls 73 ino w (by omega) (by omega) h0 h1)
  go_enter Tryd.func19, Tryd.ntmps19
  go_wp2_with fail
  refine (HQ.out _).mono ?_
  rintro e w2 ⟨rfl, hb⟩
  have HB := Lib.hid hb
  clear hb
  go_wp2_with fail
  go_ret
  exact ⟨rfl, HB.out⟩
set_option maxRecDepth 100000 in
set_option maxHeartbeats 1000000 in
theorem refE_calls (ino : Int) (name : ByteArray) (w : World) (hn : name.size ≤ maxLen) (h0 : 0 ≤ ino) (h1 : ino ≤ 4294967295) :
    Calls Tryd.prog 16 #[.int .u32 ino, .string name] w fun e w' => e = .returned (.string (kE ino name)) ∧ Below w.heap.size w w' := by
  unfold maxLen at hn
  have HQ := Lib.hid (fun w => refq_calls 69 ino w (by omega) (by omega) h0 h1)
  by_cases hl : 32 < name.size
  · have he : kE ino name = E0 := if_pos hl
    rw [he]
    have d : decide ((32 : Int) < (name.size : Int)) = true := by simp; omega
    clear he
    go_enter Tryd.func16, Tryd.ntmps16
    go_wp2_with fail
    go_ret
    exact ⟨rfl, Below.refl _ _⟩
  · have he : kE ino name = ks 69 ino ++ name := if_neg hl
    rw [he]
    have d : decide ((32 : Int) < (name.size : Int)) = false := by simp; omega
    have hs : ((ks 69 ino).size : Int) ≤ 8388608 := by rw [ks_size]; omega
    have hs2 : (name.size : Int) ≤ 8388608 := by omega
    clear he
    obtain ⟨q, hq⟩ : ∃ q, ks 69 ino = q := ⟨_, rfl⟩
    rw [hq] at HQ hs ⊢
    clear hq
    go_enter Tryd.func16, Tryd.ntmps16
    go_wp2_with fail
    refine (HQ.out _).mono ?_
    rintro e w2 ⟨rfl, hb⟩
    have HB := Lib.hid hb
    clear hb
    go_wp2_with fail
    go_ret
    exact ⟨rfl, HB.out⟩
end Go.Proofs.YtbdokofdbeccdaaDoor.KeysR
