/- Layer 10's law TreeLow, over what the project's functions are asked. -/
import Derived.Test.YtmbgbdhanobphaaTreeO
import Derived.Laws.BitsAllLaws
import Derived.Test.YtmbgbdhanobphaaConvS
namespace Go.Proofs.Ytmbgbdhanobphaa.TreeW
set_option linter.unusedVariables false
set_option linter.unusedSimpArgs false
open Go.RowKit
open Go.Proofs.Ytmbgbdhanobphaa.Byte Go.Proofs.Ytmbgbdhanobphaa.KeysM Go.Proofs.Ytmbgbdhanobphaa.TreeM Go.Proofs.Ytmbgbdhanobphaa.Own Go.Proofs.Ytmbgbdhanobphaa.Rw Go.Proofs.Ytmbgbdhanobphaa.Lst Go.Proofs.Ytmbgbdhanobphaa.TreeR Go.Proofs.Ytmbgbdhanobphaa.TreeS Go.Proofs.Ytmbgbdhanobphaa.TreeC Go.Proofs.Ytmbgbdhanobphaa.TreeL Go.Proofs.Ytmbgbdhanobphaa.TreeT Go.Proofs.Ytmbgbdhanobphaa.ConvS
variable {Rep : World → Value → List Pr → Nat → Prop}

theorem conv_two (w : World) (x y : Int) (hx0 : 0 ≤ x) (hx1 : x ≤ 255) (hy0 : 0 ≤ y) (hy1 : y ≤ 255) :
    (convert 49 9 (.slice (some ⟨w.heap.size, 0, none⟩) 2 2)).run Try.prog (w.alloc (.cells #[.int .u8 x, .int .u8 y] 5)) = .ok (.string (str [x, y])) (w.alloc (.cells #[.int .u8 x, .int .u8 y] 5)) := by
  have h := Bs.new_ w 5 (0, 0) [x, y] (by intro z hz; simp at hz; omega)
  exact h.str_ 49 9 Try.underlying49 Try.underlying5 Try.underlying9
theorem two_fit (x y : Int) : (str [x, y]).size ≤ maxLen := by
  rw [str_size]
  show 2 ≤ maxLen
  decide
theorem high_le {n h : Nat} (hl : lowB n h = true) (hn : n ≤ 50000) : h ≤ 100 := by
  unfold lowB at hl
  have h1 := of_decide_eq_true hl
  have h2 : (n + 1) * (n + 1) ≤ 50001 * 50001 := Nat.mul_le_mul (by omega) (by omega)
  have h3 : Nat.log2 ((n + 1) * (n + 1)) < 34 := by
    rw [Nat.log2_lt (Nat.pos_iff_ne_zero.1 (Nat.mul_pos (by omega) (by omega)))]
    exact Nat.lt_of_le_of_lt h2 (by decide)
  omega
theorem low_is {n h : Nat} {w : World} (hl : lowB n h = true) (hn : n ≤ 50000) : Calls Try.prog 24 #[.int .i64 n, .int .i64 h] w fun e w' => e = .returned (.bool true) ∧ w = w' := by
  have := reflow_calls n h w (by omega) (by have := high_le hl hn; omega)
  rw [hl] at this
  exact this
set_option maxRecDepth 100000 in
set_option maxHeartbeats 8000000 in
theorem low_law (hT : Tr Rep) (hF : FixOk) (A : Option Addr) (n c : Nat) (L : List Op10) (ri : Int) (w : World) (hl : Sl opE w A n L) (hn : n ≤ c) (hc : c ≤ maxLen) (hf : ∀ p ∈ L, fitOp p) (h0 : 0 ≤ ri) (h1 : ri ≤ 65535) :
    Calls Try.prog 5 #[.slice A n c, .int .u16 ri] w fun e w' => e = .returned (.bool true) ∧ Below w.heap.size w w' := by
  have HT := Lib.hid hT
  have HF := Lib.hid hF
  have HL := Lib.hid hl
  have HC := Lib.hid (fun (v : World) (hb : Below w.heap.size w v) => cut_calls A n c L v (hl.below hb) hn hc hf)
  clear hT hF hl hf hn hc
  obtain ⟨N, hN⟩ : ∃ N : Nat, ri % 2000 = (N : Int) := ⟨(ri % 2000).toNat, by omega⟩
  have hN2 : N < 2000 := by omega
  have htm : ri.tmod 2000 = (N : Int) := by rw [Int.tmod_eq_emod_of_nonneg h0, hN]
  have r1 : IntKind.i64.wrap ri = ri := by rw [IntKind.wrap_i64]; omega
  go_enter Try.func5, Try.ntmps5
  go_wp2_with fail
  refine (HT.out.new _).mono ?_
  rintro e w1 ⟨v0, g0, rfl, hr0, hb1⟩
  have HB1 := Lib.hid hb1
  have HR0 := Lib.hid hr0
  clear hb1 hr0
  go_wp2
  clear htm r1 hN
  go_loopw [5, 16] (fun t i wr => ∃ (k : Nat) (v : Value) (K : List Pr) (h : Nat), k ≤ N ∧ i = .int .i64 k ∧ v = t ∧ Rep wr v K h ∧ K.length ≤ k ∧ Below w.heap.size w wr) (fun _ i _ => N - (intOf i).toNat)
  case atStart => exact ⟨0, _, [], g0, Nat.zero_le _, rfl, rfl, HR0.out, Nat.le_refl _, HB1.out⟩
  case round =>
    obtain ⟨k, v, K, h, hk, rfl, rfl, hrep, hkl, hbel⟩ := hrel
    by_cases hlt : k < N
    · have HRP := Lib.hid hrep
      have HBX := Lib.hid hbel
      clear hrep hbel
      go_wp2_with ((with_reducible refine pick (some 26) ?_); refine wpList_conv rfl 49 9 _ rfl _ _ rfl (conv_two wr _ _ ?b1 ?b2 ?b3 ?b4) ?_)
      case b1 => omega
      case b2 => omega
      case b3 => omega
      case b4 => omega
      have hbx : Below wr.heap.size wr (wr.alloc (.cells #[.int .u8 ((k : Int) / 256), .int .u8 ((k : Int) % 256)] 5)) := (Below.refl _ _).alloc (Nat.le_refl _) _
      refine (HT.out.set _ _ (HT.out.below HRP.out hbx) (by omega) (two_fit _ _) (by decide)).mono ?_
      rintro e w3 ⟨v', h', rfl, hr3, hb3⟩
      have HR3 := Lib.hid hr3
      have HB3 := Lib.hid (keeps (keeps HBX.out hbx) hb3)
      clear hr3 hb3 hbx
      go_wp2_with fail
      go_roundw
      case rel => exact ⟨k + 1, _, _, h', by omega, by go_num, rfl, HR3.out, Nat.le_trans (put_len _ _ _) (by omega), HB3.out⟩
      case measure => simp [intOf]; omega
    · obtain rfl : k = N := by omega
      have HRP := Lib.hid hrep
      have HBX := Lib.hid hbel
      rename World => wo
      clear hrep hbel HR0
      go_wp2_with fail
      refine (HC.out _ HBX.out).mono ?_
      rintro e w2 ⟨m, rfl, hm1, hm2, hok, hb2⟩
      have HOK := Lib.hid hok
      have HB2 := Lib.hid (keeps HBX.out hb2)
      have HR2 := Lib.hid (HT.out.below HRP.out hb2)
      clear hok hb2 HRP
      go_wp2
      go_loopw [5, 32] (fun t i wr => ∃ (j : Nat) (v2 : Value) (K2 : List Pr) (h2 : Nat), j ≤ m ∧ i = .int .i64 j ∧ v2 = t ∧ Rep wr v2 K2 h2 ∧ K2.length ≤ 2000 + j ∧ Below w.heap.size w wr) (fun _ i _ => m - (intOf i).toNat)
      case atStart => exact ⟨0, _, _, h, Nat.zero_le _, rfl, rfl, HR2.out, by omega, HB2.out⟩
      case round =>
        obtain ⟨j, v2, K2, h2, hj, rfl, rfl, hrep, hkl2, hbel⟩ := hrel
        clear HR2 HB2
        by_cases hlt : j < m
        · obtain ⟨x, g, o, hx, rfl, hg, hcl⟩ := (HL.out.below hbel).get j (by omega)
          obtain ⟨_, _, _, _, hc3⟩ := op_cells hcl
          have HX := Lib.hid hc3
          have hokx := HOK.out x (List.mem_of_getElem? (by rw [List.getElem?_take_of_lt hlt]; exact hx))
          obtain ⟨kind, from_, key, value⟩ := x
          have f1 : key.size ≤ 200 := hokx.1
          have f2 : value.size ≤ 200 := hokx.2
          have hb1 : Below wr.heap.size wr (wr.alloc (.cells #[.int .i64 kind, .int .u16 from_, .string key, .string value] 31)) := (Below.refl _ _).alloc (Nat.le_refl _) _
          have HRP := Lib.hid (HT.out.below hrep hb1)
          have HBY := Lib.hid (keeps hbel hb1)
          clear hcl hc3 hx hbel hb1 hokx hrep
          cases hk0 : (kind == 0) with
          | true =>
            go_wp2_with ((with_reducible refine pick (some 35) ?_); refine wpList_load_mid rfl 31 _ rfl g (o + j * 4) rfl [.int .i64 kind, .int .u16 from_, .string key, .string value] _ HX.out Try.underlying31 rfl info_op4 ?_)
            refine (HT.out.set key value HRP.out (by omega) (fits f1 (by omega)) (fits f2 (by omega))).mono ?_
            rintro e w3 ⟨v', h', rfl, hr3, hb3⟩
            have HKL : (putL key value K2).length ≤ 2000 + (j + 1) := Nat.le_trans (put_len _ _ _) (by omega)
            have HLW := Lib.hid (HT.out.low hr3)
            have HR3 := Lib.hid hr3
            have HB3 := Lib.hid (keeps HBY.out hb3)
            clear hr3 hb3
            generalize putL key value K2 = K3 at HR3 HLW HKL
            go_wp2_with fail
            refine (HT.out.len HR3.out (by omega)).mono ?_
            rintro e w4 ⟨rfl, hb4⟩
            have HB4 := Lib.hid (keeps HB3.out hb4)
            have HR4 := Lib.hid (HT.out.below HR3.out hb4)
            clear hb4
            go_wp2_with fail
            refine (HT.out.high HR4.out (by omega)).mono ?_
            rintro e w5 ⟨rfl, hb5⟩
            have HB5 := Lib.hid (keeps HB4.out hb5)
            have HR5 := Lib.hid (HT.out.below HR4.out hb5)
            clear hb5
            go_wp2_with fail
            refine (low_is HLW.out (by omega)).mono ?_
            rintro e w6 ⟨rfl, rfl⟩
            go_wp2_with fail
            go_roundw
            case rel => exact ⟨j + 1, _, _, h', by omega, by go_num, rfl, HR5.out, HKL, HB5.out⟩
            case measure => simp [intOf]; omega
          | false =>
            go_wp2_with ((with_reducible refine pick (some 35) ?_); refine wpList_load_mid rfl 31 _ rfl g (o + j * 4) rfl [.int .i64 kind, .int .u16 from_, .string key, .string value] _ HX.out Try.underlying31 rfl info_op4 ?_)
            refine (HT.out.cut key HRP.out (by omega) (fits f1 (by omega))).mono ?_
            rintro e w3 ⟨v', h', rfl, hr3, hb3⟩
            have HKL : (cutL key K2).length ≤ 2000 + (j + 1) := Nat.le_trans (cut_len _ _) (by omega)
            have HLW := Lib.hid (HT.out.low hr3)
            have HR3 := Lib.hid hr3
            have HB3 := Lib.hid (keeps HBY.out hb3)
            clear hr3 hb3
            generalize cutL key K2 = K3 at HR3 HLW HKL
            go_wp2_with fail
            refine (HT.out.len HR3.out (by omega)).mono ?_
            rintro e w4 ⟨rfl, hb4⟩
            have HB4 := Lib.hid (keeps HB3.out hb4)
            have HR4 := Lib.hid (HT.out.below HR3.out hb4)
            clear hb4
            go_wp2_with fail
            refine (HT.out.high HR4.out (by omega)).mono ?_
            rintro e w5 ⟨rfl, hb5⟩
            have HB5 := Lib.hid (keeps HB4.out hb5)
            have HR5 := Lib.hid (HT.out.below HR4.out hb5)
            clear hb5
            go_wp2_with fail
            refine (low_is HLW.out (by omega)).mono ?_
            rintro e w6 ⟨rfl, rfl⟩
            go_wp2_with fail
            go_roundw
            case rel => exact ⟨j + 1, _, _, h', by omega, by go_num, rfl, HR5.out, HKL, HB5.out⟩
            case measure => simp [intOf]; omega
        · obtain rfl : j = m := by omega
          have HRP := Lib.hid hrep
          have HBY := Lib.hid hbel
          rename World => wq
          clear hrep hbel HL HC HOK
          go_wp2
          go_loopw [5, 10] (fun t i wr => ∃ (p : Nat) (v3 : Value) (K3 : List Pr) (h3 : Nat), p ≤ k + 1 ∧ i = .int .i64 p ∧ v3 = t ∧ Rep wr v3 K3 h3 ∧ K3.length ≤ 3000 ∧ Below w.heap.size w wr) (fun _ i _ => k + 1 - (intOf i).toNat)
          case atStart => exact ⟨0, _, _, h2, Nat.zero_le _, rfl, rfl, HRP.out, by omega, HBY.out⟩
          case round =>
            obtain ⟨p, v3, K3, h3, hp, rfl, rfl, hrep, hkl3, hbel⟩ := hrel
            have HRQ := Lib.hid hrep
            have HBQ := Lib.hid hbel
            have HLW := Lib.hid (HT.out.low hrep)
            clear hrep hbel HRP HBY
            by_cases hlt : p < k
            · go_wp2_with ((with_reducible refine pick (some 68) ?_); refine wpList_conv rfl 49 9 _ rfl _ _ rfl (conv_two wr _ _ ?b1 ?b2 ?b3 ?b4) ?_)
              case b1 => omega
              case b2 => omega
              case b3 => omega
              case b4 => omega
              have hbx : Below wr.heap.size wr (wr.alloc (.cells #[.int .u8 ((p : Int) / 256), .int .u8 ((p : Int) % 256)] 5)) := (Below.refl _ _).alloc (Nat.le_refl _) _
              refine (HT.out.cut _ (HT.out.below HRQ.out hbx) (by omega) (two_fit _ _)).mono ?_
              rintro e w3 ⟨v', h', rfl, hr3, hb3⟩
              have HR3 := Lib.hid hr3
              have HB3 := Lib.hid (keeps (keeps HBQ.out hbx) hb3)
              clear hr3 hb3 hbx
              go_wp2_with fail
              go_roundw
              case rel => exact ⟨p + 2, _, _, h', by omega, by go_num, rfl, HR3.out, Nat.le_trans (cut_len _ _) hkl3, HB3.out⟩
              case measure => simp [intOf]; omega
            · go_wp2_with fail
              refine (HF.out _).mono ?_
              rintro e w3 ⟨rfl, hb3⟩
              have HB3 := Lib.hid (keeps HBQ.out hb3)
              have HR3 := Lib.hid (HT.out.below HRQ.out hb3)
              clear hb3
              go_wp2_with fail
              refine (HT.out.len HR3.out (by omega)).mono ?_
              rintro e w4 ⟨rfl, hb4⟩
              have HB4 := Lib.hid (keeps HB3.out hb4)
              have HR4 := Lib.hid (HT.out.below HR3.out hb4)
              clear hb4
              go_wp2_with fail
              refine (HT.out.high HR4.out (by omega)).mono ?_
              rintro e w5 ⟨rfl, hb5⟩
              have HB5 := Lib.hid (keeps HB4.out hb5)
              clear hb5
              go_wp2_with fail
              refine (low_is HLW.out (by omega)).mono ?_
              rintro e w6 ⟨rfl, rfl⟩
              go_wp2_with fail
              go_ret
              exact ⟨rfl, HB5.out⟩
end Go.Proofs.Ytmbgbdhanobphaa.TreeW
