/- The contracts of the document's answer for layer 9. -/
import Derived.Test.YtipiibjghmafjaaKeysM
import Derived.Test.YtipiibjghmafjaaPackH
import Derived.Test.YtipiibjghmafjaaConvS
import Derived.WalkLawsBesides
import Derived.WalkSpells
import Derived.Laws.Concat
import Derived.Deep.RegionHeld3
import Derived.Deep.QuietTactic
import Derived.BigQuiet
import Derived.Deep.RegionLaw
import Derived.BigRegion
namespace Go.Proofs.Ytipiibjghmafjaa.KeysR
set_option linter.unusedVariables false
set_option linter.unusedSimpArgs false
open Go.RowKit
open Go.Proofs.Ytipiibjghmafjaa.Byte Go.Proofs.Ytipiibjghmafjaa.PackM Go.Proofs.Ytipiibjghmafjaa.PackV Go.Proofs.Ytipiibjghmafjaa.PackS Go.Proofs.Ytipiibjghmafjaa.PackH Go.Proofs.Ytipiibjghmafjaa.ConvS Go.Proofs.Ytipiibjghmafjaa.KeysM

theorem keeps {w v v' : World} (h : Below w.heap.size w v) (hb : Below v.heap.size v v') : Below w.heap.size w v' := h.trans (hb.mono h.size)
theorem kq_of (c ino : Int) : [c] ++ low (width 4) ino = kq c ino := rfl
set_option maxHeartbeats 1000000 in
theorem refq_calls (c ino : Int) (w : World) (hc0 : 0 ≤ c) (hc1 : c ≤ 255) (h0 : 0 ≤ ino) (h1 : ino ≤ 4294967295) :
    Calls Try.prog 20 #[.int .u8 c, .int .u32 ino] w fun e w' => e = .returned (.string (ks c ino)) ∧ Below w.heap.size w w' := by
  have hbw : Below w.heap.size w (w.alloc (.cells #[.int .u8 c] 5)) := (Below.refl _ _).alloc (Nat.le_refl _) _
  have HB := Lib.hid hbw
  have HP := Lib.hid (refput_calls (some ⟨w.heap.size, 0, none⟩) 1 1 [c] 4 ino (w.alloc (.cells #[.int .u8 c] 5)) (Bs.new_ w 5 (0, 0) [c] (by intro z hz; rw [List.mem_singleton] at hz; omega)) (fun e => by cases e) (by omega) (by omega) (by omega) h0 (by omega))
  rw [kq_of] at HP
  have HL := Lib.hid (kq_len c ino)
  have HK : Hid (str (kq c ino) = ks c ino) := Lib.hid rfl
  clear hbw
  obtain ⟨zs, hzs⟩ : ∃ z, kq c ino = z := ⟨_, rfl⟩
  obtain ⟨ss, hss⟩ : ∃ z, ks c ino = z := ⟨_, rfl⟩
  rw [hzs] at HP HL HK
  rw [hss] at HK ⊢
  clear hzs hss
  go_enter Try.func20, Try.ntmps20
  go_wp2_with (go_at_call 25; refine HP.out.mono ?_; intro e w2 hm; obtain ⟨g, cap, rfl, ho, hb2⟩ := hm.at_ HL.out; have hs := ho.str_ (P := Try.prog) 35 9 Try.underlying35 Try.underlying5 Try.underlying9; rw [HK.out] at hs; have HB2 := Lib.hid (keeps HB.out hb2); clear hm ho hb2)
  go_ret
  exact ⟨rfl, HB2.out⟩
set_option maxHeartbeats 400000 in
theorem refI_calls (ino : Int) (w : World) (h0 : 0 ≤ ino) (h1 : ino ≤ 4294967295) :
    Calls Try.prog 7 #[.int .u32 ino] w fun e w' => e = .returned (.string (kI ino)) ∧ Below w.heap.size w w' := by
  have HQ := Lib.hid (fun w => refq_calls 73 ino w (by omega) (by omega) h0 h1)
  go_enter Try.func7, Try.ntmps7
  go_wp2_with fail
  refine (HQ.out _).mono ?_
  rintro e w2 ⟨rfl, hb⟩
  have HB := Lib.hid hb
  clear hb
  go_wp2_with fail
  go_ret
  exact ⟨rfl, HB.out⟩
set_option maxHeartbeats 1000000 in
theorem refE_calls (ino : Int) (name : ByteArray) (w : World) (hn : name.size ≤ maxLen) (h0 : 0 ≤ ino) (h1 : ino ≤ 4294967295) :
    Calls Try.prog 9 #[.int .u32 ino, .string name] w fun e w' => e = .returned (.string (kE ino name)) ∧ Below w.heap.size w w' := by
  unfold maxLen at hn
  have HQ := Lib.hid (fun w => refq_calls 69 ino w (by omega) (by omega) h0 h1)
  by_cases hl : 32 < name.size
  · have he : kE ino name = E0 := if_pos hl
    rw [he]
    have d : decide ((32 : Int) < (name.size : Int)) = true := by simp; omega
    clear he
    go_enter Try.func9, Try.ntmps9
    go_wp2_with fail
    go_ret
    exact ⟨rfl, Below.refl _ _⟩
  · have he : kE ino name = ks 69 ino ++ name := if_neg hl
    rw [he]
    have d : decide ((32 : Int) < (name.size : Int)) = false := by simp; omega
    have hs : ((ks 69 ino).size : Int) ≤ 8388608 := by rw [ks_size]; omega
    have hs2 : (name.size : Int) ≤ 8388608 := by omega
    clear he
    obtain ⟨q, hq⟩ : ∃ q, ks 69 ino = q := ⟨_, rfl⟩
    rw [hq] at HQ hs ⊢
    clear hq
    go_enter Try.func9, Try.ntmps9
    go_wp2_with fail
    refine (HQ.out _).mono ?_
    rintro e w2 ⟨rfl, hb⟩
    have HB := Lib.hid hb
    clear hb
    go_wp2_with fail
    go_ret
    exact ⟨rfl, HB.out⟩
theorem conv_two (w : World) (x y : Int) (hx0 : 0 ≤ x) (hx1 : x ≤ 255) (hy0 : 0 ≤ y) (hy1 : y ≤ 255) (s : ByteArray) (hs : str [x, y] = s) :
    Bs (w.alloc (.cells #[.int .u8 x, .int .u8 y] 5)) (some ⟨w.heap.size, 0, none⟩) 2 [x, y] ∧ (convert 35 9 (.slice (some ⟨w.heap.size, 0, none⟩) 2 2)).run Try.prog (w.alloc (.cells #[.int .u8 x, .int .u8 y] 5)) = .ok (.string s) (w.alloc (.cells #[.int .u8 x, .int .u8 y] 5)) := by
  subst hs
  have h := Bs.new_ w 5 (0, 0) [x, y] (by intro z hz; simp at hz; omega)
  exact ⟨h, h.str_ 35 9 Try.underlying35 Try.underlying5 Try.underlying9⟩
theorem after_two {w w2 : World} {x y : Int} {s : ByteArray} (hb : Bs (w.alloc (.cells #[.int .u8 x, .int .u8 y] 5)) (some ⟨w.heap.size, 0, none⟩) 2 [x, y]) (hs : str [x, y] = s)
    (h : Below (w.alloc (.cells #[.int .u8 x, .int .u8 y] 5)).drew.heap.size (w.alloc (.cells #[.int .u8 x, .int .u8 y] 5)).drew w2) :
    Below w.heap.size w w2 ∧ (convert 35 9 (.slice (some ⟨w.heap.size, 0, none⟩) 2 2)).run Try.prog w2 = .ok (.string s) w2 := by
  subst hs
  have h1 : Bs (w.alloc (.cells #[.int .u8 x, .int .u8 y] 5)).drew (some ⟨w.heap.size, 0, none⟩) 2 [x, y] := hb.below ((Below.refl _ _).drew)
  have h2 := h1.below h
  refine ⟨keeps (((Below.refl _ _).alloc (Nat.le_refl _) _).drew) h, h2.str_ 35 9 Try.underlying35 Try.underlying5 Try.underlying9⟩
set_option maxHeartbeats 2000000 in
theorem refD_calls (ino n : Int) (w : World) (h0 : 0 ≤ ino) (h1 : ino ≤ 4294967295) :
    Calls Try.prog 11 #[.int .u32 ino, .int .i64 n] w fun e w' => e = .returned (.string (kD ino n)) ∧ Below w.heap.size w w' := by
  have HQ := Lib.hid (fun w => refq_calls 68 ino w (by omega) (by omega) h0 h1)
  rcases (show n < 0 ∨ (0 ≤ n ∧ 65536 ≤ n) ∨ (0 ≤ n ∧ n < 65536) by omega) with hl | ⟨hl, hl2⟩ | ⟨hl, hl2⟩
  · have he : kD ino n = E0 := if_pos (.inl hl)
    rw [he]
    have d : decide (n < (0 : Int)) = true := by simpa using hl
    clear he
    go_enter Try.func11, Try.ntmps11
    go_wp2_with fail
    go_ret
    exact ⟨rfl, Below.refl _ _⟩
  · have he : kD ino n = E0 := if_pos (.inr hl2)
    rw [he]
    have d : decide (n < (0 : Int)) = false := by simp; omega
    have d2 : decide ((65536 : Int) ≤ n) = true := by simpa using hl2
    clear he
    go_enter Try.func11, Try.ntmps11
    go_wp2_with fail
    go_ret
    exact ⟨rfl, Below.refl _ _⟩
  · have he : kD ino n = ks 68 ino ++ str [n / 256, n % 256] := if_neg (by omega)
    rw [he]
    have d : decide (n < (0 : Int)) = false := by simp; omega
    have d2 : decide ((65536 : Int) ≤ n) = false := by simp; omega
    have hs : ((ks 68 ino).size : Int) ≤ 8388608 := by rw [ks_size]; omega
    have hs2 : ((str [n / 256, n % 256]).size : Int) ≤ 8388608 := by rw [str_size]; simp
    clear he
    obtain ⟨q, hq⟩ : ∃ q, ks 68 ino = q := ⟨_, rfl⟩
    obtain ⟨s2, hs2'⟩ : ∃ q, str [n / 256, n % 256] = q := ⟨_, rfl⟩
    rw [hq] at HQ hs ⊢
    rw [hs2'] at hs2 ⊢
    have CT := Lib.hid (fun w => conv_two w (n / 256) (n % 256) (by omega) (by omega) (by omega) (by omega) s2 hs2')
    have ct := fun w => (CT.out w).2
    have HS2 := Lib.hid hs2'
    have ct2 : (convert 35 9 (.slice (some ⟨w.heap.size, 0, none⟩) 2 2)).run Try.prog ((w.alloc (.cells #[.int .u8 (n / 256), .int .u8 (n % 256)] 5)).drew) = .ok (.string s2) ((w.alloc (.cells #[.int .u8 (n / 256), .int .u8 (n % 256)] 5)).drew) := (after_two (CT.out w).1 hs2' (Below.refl _ _)).2
    clear hq hs2'
    have g1 : 0 ≤ n / 256 ∧ n / 256 ≤ 255 := by omega
    have g2 : 0 ≤ n % 256 ∧ n % 256 ≤ 255 := by omega
    go_enter Try.func11, Try.ntmps11
    have hq9 : ¬ 9223372036854775807 < q.size + s2.size := by omega
    have t1 : Int.tdiv n 256 = n / 256 := Int.tdiv_eq_ediv_of_nonneg hl
    have t2 : Int.tmod n 256 = n % 256 := Int.tmod_eq_emod_of_nonneg hl
    have r1 : IntKind.i64.wrap (n / 256) = n / 256 := by rw [IntKind.wrap_i64]; omega
    have r2 : IntKind.u8.wrap (n / 256) = n / 256 := by rw [IntKind.wrap_u8]; omega
    have r3 : IntKind.u8.wrap (n % 256) = n % 256 := by rw [IntKind.wrap_u8]; omega
    go_wp2_with fail
    go_region_law (first
      | (go_simp; go_at_call 20; refine (HQ.out ((w.alloc (.cells #[.int .u8 (n / 256), .int .u8 (n % 256)] 5)).drew)).mono ?_; rintro e w2 ⟨rfl, hb2⟩; obtain ⟨hw2, hc2⟩ := after_two (CT.out w).1 HS2.out hb2; have HB2 : Hid (Below w.heap.size w w2) := Lib.hid hw2; clear hw2 hb2)
      | (go_simp; go_at_call 20; refine (HQ.out w.drew).mono ?_; rintro e w2 ⟨rfl, hb2⟩; have HB2 : Hid (Below w.heap.size w w2) := Lib.hid (keeps ((Below.refl _ _).drew) hb2); clear hb2))
    all_goals
      go_wp2_with fail
      go_ret
      first
        | exact ⟨rfl, HB2.out⟩
        | exact ⟨rfl, HB2.out.alloc HB2.out.size _⟩
end Go.Proofs.Ytipiibjghmafjaa.KeysR
