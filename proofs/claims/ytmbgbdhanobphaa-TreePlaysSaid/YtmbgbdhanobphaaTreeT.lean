/- Layer 10's law TreeStays, over what the project's functions are asked. -/
import Derived.Test.YtmbgbdhanobphaaTreeL
namespace Go.Proofs.Ytmbgbdhanobphaa.TreeT
set_option linter.unusedVariables false
set_option linter.unusedSimpArgs false
open Go.RowKit
open Go.Proofs.Ytmbgbdhanobphaa.Byte Go.Proofs.Ytmbgbdhanobphaa.KeysM Go.Proofs.Ytmbgbdhanobphaa.TreeM Go.Proofs.Ytmbgbdhanobphaa.Own Go.Proofs.Ytmbgbdhanobphaa.Rw Go.Proofs.Ytmbgbdhanobphaa.Lst Go.Proofs.Ytmbgbdhanobphaa.TreeR Go.Proofs.Ytmbgbdhanobphaa.TreeS Go.Proofs.Ytmbgbdhanobphaa.TreeC Go.Proofs.Ytmbgbdhanobphaa.TreeL
variable {Rep : World → Value → List Pr → Nat → Prop}

def FF : ByteArray := ⟨#[255, 255, 255, 255]⟩
theorem cut_len (k : ByteArray) (l : List Pr) : (cutL k l).length ≤ l.length := List.length_filter_le _ _
theorem range_len (a b : ByteArray) (l : List Pr) : (rangeL a b l).length ≤ l.length := List.length_filter_le _ _
theorem range_is {w : World} {v : Value} {L W : List Pr} {h : Nat} (hT : Tr Rep) (hr : Rep w v L h) (a b : ByteArray) (hw : rangeL a b L = W) (hl : L.length ≤ 50000) (ha : a.size ≤ maxLen) (hb : b.size ≤ maxLen) : Calls Try.prog 20 #[v, .string a, .string b] w (RowIs W w) := by
  subst hw
  exact hT.range a b hr hl ha hb
set_option maxRecDepth 100000 in
set_option maxHeartbeats 4000000 in
theorem stays_law (hT : Tr Rep) (hF : FixOk) (A B : Option Addr) (n c n2 c2 : Nat) (L M : List Op10) (w : World) (hl : Sl opE w A n L) (hm : Sl opE w B n2 M) (hn : n ≤ c) (hc : c ≤ maxLen) (hn2 : n2 ≤ c2) (hc2 : c2 ≤ maxLen) (hf : ∀ p ∈ L, fitOp p) (hf2 : ∀ p ∈ M, fitOp p) :
    Calls Try.prog 4 #[.slice A n c, .slice B n2 c2] w fun e w' => e = .returned (.bool true) ∧ Below w.heap.size w w' := by
  have HT := Lib.hid hT
  have HF := Lib.hid hF
  have HL := Lib.hid hl
  have HM := Lib.hid hm
  have HC := Lib.hid (fun (v : World) (hb : Below w.heap.size w v) => cut_calls A n c L v (hl.below hb) hn hc hf)
  have HC2 := Lib.hid (fun (v : World) (hb : Below w.heap.size w v) => cut_calls B n2 c2 M v (hm.below hb) hn2 hc2 hf2)
  clear hT hF hl hm hf hf2 hn hc hn2 hc2
  go_enter Try.func4, Try.ntmps4
  go_wp2_with fail
  refine (HT.out.new _).mono ?_
  rintro e w1 ⟨v0, h0, rfl, hr0, hb1⟩
  have HB1 := Lib.hid hb1
  have HR0 := Lib.hid hr0
  clear hb1 hr0
  go_wp2_with fail
  refine (HC.out _ HB1.out).mono ?_
  rintro e w2 ⟨m, rfl, hm1, hm2, hok, hb2⟩
  have HOK := Lib.hid hok
  have HB2 := Lib.hid (keeps HB1.out hb2)
  have HR := Lib.hid (HT.out.below HR0.out hb2)
  clear hok hb2 HR0
  go_wp2
  go_loopw [5, 18] (fun t i wr => ∃ (k : Nat) (v : Value) (K : List Pr) (h : Nat), k ≤ m ∧ i = .int .i64 k ∧ v = t ∧ Rep wr v K h ∧ K.length ≤ k ∧ Below w.heap.size w wr) (fun _ i _ => m - (intOf i).toNat)
  case atStart => exact ⟨0, _, [], h0, Nat.zero_le _, rfl, rfl, HR.out, Nat.le_refl _, HB2.out⟩
  case round =>
    obtain ⟨k, v, K, h, hk, rfl, rfl, hrep, hkl, hbel⟩ := hrel
    by_cases hlt : k < m
    · obtain ⟨x, g, o, hx, rfl, hg, hcl⟩ := (HL.out.below hbel).get k (by have := HL.out.1; omega)
      obtain ⟨_, _, _, _, hc3⟩ := op_cells hcl
      have HX := Lib.hid hc3
      have hokx := HOK.out x (List.mem_of_getElem? (by rw [List.getElem?_take_of_lt hlt]; exact hx))
      obtain ⟨kind, from_, key, value⟩ := x
      have f1 : key.size ≤ 200 := hokx.1
      have f2 : value.size ≤ 200 := hokx.2
      have hb1 : Below wr.heap.size wr (wr.alloc (.cells #[.int .i64 kind, .int .u16 from_, .string key, .string value] 31)) := (Below.refl _ _).alloc (Nat.le_refl _) _
      have HRP := Lib.hid (HT.out.below hrep hb1)
      have HBX := Lib.hid (keeps hbel hb1)
      clear hcl hc3 hx hbel hb1 hokx hrep
      cases hk0 : (kind == 0) with
      | true =>
        go_wp2_with ((with_reducible refine pick (some 21) ?_); refine wpList_load_mid rfl 31 _ rfl g (o + k * 4) rfl [.int .i64 kind, .int .u16 from_, .string key, .string value] _ HX.out Try.underlying31 rfl info_op4 ?_)
        refine (HT.out.set key value HRP.out (by omega) (fits f1 (by omega)) (fits f2 (by omega))).mono ?_
        rintro e w3 ⟨v', h', rfl, hr3, hb3⟩
        have HR3 := Lib.hid hr3
        have HB3 := Lib.hid (keeps HBX.out hb3)
        clear hr3 hb3
        go_wp2_with fail
        go_roundw
        case rel => exact ⟨k + 1, _, _, h', by omega, by go_num, rfl, HR3.out, Nat.le_trans (put_len _ _ _) (by omega), HB3.out⟩
        case measure => simp [intOf]; omega
      | false =>
        go_wp2_with ((with_reducible refine pick (some 21) ?_); refine wpList_load_mid rfl 31 _ rfl g (o + k * 4) rfl [.int .i64 kind, .int .u16 from_, .string key, .string value] _ HX.out Try.underlying31 rfl info_op4 ?_)
        refine (HT.out.cut key HRP.out (by omega) (fits f1 (by omega))).mono ?_
        rintro e w3 ⟨v', h', rfl, hr3, hb3⟩
        have HR3 := Lib.hid hr3
        have HB3 := Lib.hid (keeps HBX.out hb3)
        clear hr3 hb3
        go_wp2_with fail
        go_roundw
        case rel => exact ⟨k + 1, _, _, h', by omega, by go_num, rfl, HR3.out, Nat.le_trans (cut_len _ _) (by omega), HB3.out⟩
        case measure => simp [intOf]; omega
    · obtain rfl : k = m := by omega
      have HRP := Lib.hid hrep
      have HBX := Lib.hid hbel
      rename World => wo
      clear hrep hbel HR HOK HL
      go_wp2_with fail
      refine (HT.out.range ⟨#[]⟩ FF HRP.out (by omega) (by decide) (by decide)).mono ?_
      rintro e w3 ⟨AA, cc, rfl, hsl, hb3⟩
      have HW := Lib.hid hsl
      have HB3 := Lib.hid (keeps HBX.out hb3)
      have HR3 := Lib.hid (HT.out.below HRP.out hb3)
      clear hsl hb3 HRP
      go_wp2_with fail
      refine (HT.out.len HR3.out (by omega)).mono ?_
      rintro e w4 ⟨rfl, hb4⟩
      have HB4 := Lib.hid (keeps HB3.out hb4)
      have HW4 := Lib.hid (HW.out.below hb4)
      have HR4 := Lib.hid (HT.out.below HR3.out hb4)
      clear hb4 HR3 HW
      go_wp2_with fail
      refine (HT.out.high HR4.out (by omega)).mono ?_
      rintro e w5 ⟨rfl, hb5⟩
      have HB5 := Lib.hid (keeps HB4.out hb5)
      have HW5 := Lib.hid (HW4.out.below hb5)
      have HR5 := Lib.hid (HT.out.below HR4.out hb5)
      clear hb5 HR4 HW4
      go_wp2_with fail
      refine (HC2.out _ HB5.out).mono ?_
      rintro e w6 ⟨m2, rfl, hm3, hm4, hok2, hb6⟩
      have HOK := Lib.hid hok2
      have HB6 := Lib.hid (keeps HB5.out hb6)
      have HR6 := Lib.hid (HT.out.below HR5.out hb6)
      have HW6 := Lib.hid (HW5.out.below hb6)
      clear hok2 hb6 HR5 HW5
      go_wp2
      obtain ⟨va, hva⟩ : ∃ q, q = v := ⟨_, rfl⟩
      go_loopw [11, 46] (fun t i wr => ∃ (j : Nat) (v2 : Value) (K2 : List Pr) (h2 : Nat), j ≤ m2 ∧ i = .int .i64 j ∧ v2 = t ∧ Rep wr v2 K2 h2 ∧ K2.length ≤ 200 + j ∧ Rep wr v K h ∧ Sl prE wr AA (rangeL ⟨#[]⟩ FF K).length (rangeL ⟨#[]⟩ FF K) ∧ Below w.heap.size w wr) (fun _ i _ => m2 - (intOf i).toNat)
      case atStart => exact ⟨0, _, K, h, Nat.zero_le _, rfl, rfl, HR6.out, by omega, HR6.out, HW6.out, HB6.out⟩
      case round =>
        obtain ⟨j, v2, K2, h2, hj, rfl, rfl, hrep2, hkl2, hrep1, hwas, hbel⟩ := hrel
        clear HR6 HW6 HB6 HB5 HB4 HB3 HBX
        by_cases hlt : j < m2
        · obtain ⟨x, g, o, hx, rfl, hg, hcl⟩ := (HM.out.below hbel).get j (by omega)
          obtain ⟨_, _, _, _, hc3⟩ := op_cells hcl
          have HX := Lib.hid hc3
          have hokx := HOK.out x (List.mem_of_getElem? (by rw [List.getElem?_take_of_lt hlt]; exact hx))
          obtain ⟨kind, from_, key, value⟩ := x
          have f1 : key.size ≤ 200 := hokx.1
          have f2 : value.size ≤ 200 := hokx.2
          have hb1 : Below wr.heap.size wr (wr.alloc (.cells #[.int .i64 kind, .int .u16 from_, .string key, .string value] 31)) := (Below.refl _ _).alloc (Nat.le_refl _) _
          have HRP := Lib.hid (HT.out.below hrep2 hb1)
          have HRQ := Lib.hid (HT.out.below hrep1 hb1)
          have HWQ := Lib.hid (hwas.below hb1)
          have HBX := Lib.hid (keeps hbel hb1)
          clear hcl hc3 hx hbel hb1 hokx hrep2 hrep1 hwas
          cases hk0 : (kind == 0) with
          | true =>
            go_wp2_with ((with_reducible refine pick (some 49) ?_); refine wpList_load_mid rfl 31 _ rfl g (o + j * 4) rfl [.int .i64 kind, .int .u16 from_, .string key, .string value] _ HX.out Try.underlying31 rfl info_op4 ?_)
            refine (HT.out.set key value HRP.out (by omega) (fits f1 (by omega)) (fits f2 (by omega))).mono ?_
            rintro e w7 ⟨v', h', rfl, hr3, hb3⟩
            have HR3 := Lib.hid hr3
            have HB3 := Lib.hid (keeps HBX.out hb3)
            have HRQ3 := Lib.hid (HT.out.below HRQ.out hb3)
            have HWQ3 := Lib.hid (HWQ.out.below hb3)
            clear hr3 hb3
            go_wp2_with fail
            go_roundw
            case rel => exact ⟨j + 1, _, _, h', by omega, by go_num, rfl, HR3.out, Nat.le_trans (put_len _ _ _) (by omega), HRQ3.out, HWQ3.out, HB3.out⟩
            case measure => simp [intOf]; omega
          | false =>
            go_wp2_with ((with_reducible refine pick (some 49) ?_); refine wpList_load_mid rfl 31 _ rfl g (o + j * 4) rfl [.int .i64 kind, .int .u16 from_, .string key, .string value] _ HX.out Try.underlying31 rfl info_op4 ?_)
            refine (HT.out.cut key HRP.out (by omega) (fits f1 (by omega))).mono ?_
            rintro e w7 ⟨v', h', rfl, hr3, hb3⟩
            have HR3 := Lib.hid hr3
            have HB3 := Lib.hid (keeps HBX.out hb3)
            have HRQ3 := Lib.hid (HT.out.below HRQ.out hb3)
            have HWQ3 := Lib.hid (HWQ.out.below hb3)
            clear hr3 hb3
            go_wp2_with fail
            go_roundw
            case rel => exact ⟨j + 1, _, _, h', by omega, by go_num, rfl, HR3.out, Nat.le_trans (cut_len _ _) (by omega), HRQ3.out, HWQ3.out, HB3.out⟩
            case measure => simp [intOf]; omega
        · obtain rfl : j = m2 := by omega
          have HRQ := Lib.hid hrep1
          have HWQ := Lib.hid hwas
          have HBX := Lib.hid hbel
          clear hrep1 hrep2 hwas hbel HM HOK
          have hR := range_len ⟨#[]⟩ FF K
          obtain ⟨W, hW⟩ : ∃ W, rangeL ⟨#[]⟩ FF K = W := ⟨_, rfl⟩
          rw [hW] at HWQ hR ⊢
          have HW := Lib.hid hW
          clear hW
          go_wp2_with fail
          refine (HF.out _).mono ?_
          rintro e w7 ⟨rfl, hb7⟩
          have HB7 := Lib.hid (keeps HBX.out hb7)
          have HR7 := Lib.hid (HT.out.below HRQ.out hb7)
          have HW7 := Lib.hid (HWQ.out.below hb7)
          clear hb7
          go_wp2_with fail
          refine (range_is HT.out HR7.out ⟨#[]⟩ FF HW.out (by omega) (by decide) (by decide)).mono ?_
          rintro e w8 ⟨AB, cd, rfl, hs8, hb8⟩
          have HB8 := Lib.hid (keeps HB7.out hb8)
          have HR8 := Lib.hid (HT.out.below HR7.out hb8)
          have HW8 := Lib.hid (HW7.out.below hb8)
          have HS8 := Lib.hid hs8
          clear hb8 hs8
          go_wp2_with fail
          refine (refsame_calls _ _ _ _ _ _ W W _ HW8.out HS8.out (by omega) (by omega) rfl).mono ?_
          rintro e w9 ⟨rfl, hb9⟩
          have HB9 := Lib.hid (keeps HB8.out hb9)
          have HR9 := Lib.hid (HT.out.below HR8.out hb9)
          clear hb9
          go_wp2_with fail
          refine (HT.out.len HR9.out (by omega)).mono ?_
          rintro e w10 ⟨rfl, hb10⟩
          have HB10 := Lib.hid (keeps HB9.out hb10)
          have HR10 := Lib.hid (HT.out.below HR9.out hb10)
          clear hb10
          go_wp2_with fail
          refine (HT.out.high HR10.out (by omega)).mono ?_
          rintro e w11 ⟨rfl, hb11⟩
          have HB11 := Lib.hid (keeps HB10.out hb11)
          clear hb11
          go_wp2_with fail
          go_ret
          exact ⟨rfl, HB11.out⟩
end Go.Proofs.Ytmbgbdhanobphaa.TreeT
