/- The walks of layer 9's laws, over what the project's functions are asked. -/
import Derived.Test.YtipiibjghmafjaaKeysN
namespace Go.Proofs.Ytipiibjghmafjaa.KeysL
set_option linter.unusedVariables false
set_option linter.unusedSimpArgs false
open Go.RowKit
open Go.Proofs.Ytipiibjghmafjaa.Byte Go.Proofs.Ytipiibjghmafjaa.KeysM Go.Proofs.Ytipiibjghmafjaa.KeysR Go.Proofs.Ytipiibjghmafjaa.KeysS Go.Proofs.Ytipiibjghmafjaa.KeysN

/-- The call answers with this text; nothing that was there has changed. -/
def Txt (s : ByteArray) (w : World) (e : Ending) (w' : World) : Prop := e = .returned (.string s) ∧ Below w.heap.size w w'
def InodeOk : Prop := ∀ (ino : Int) (w : World), 0 ≤ ino → ino ≤ 4294967295 → Calls Try.prog 6 #[.int .u32 ino] w (Txt (kI ino) w)
def EntryOk : Prop := ∀ (ino : Int) (name : ByteArray) (w : World), 0 ≤ ino → ino ≤ 4294967295 → name.size ≤ 100000 → Calls Try.prog 8 #[.int .u32 ino, .string name] w (Txt (kE ino name) w)
def BlockOk : Prop := ∀ (ino n : Int) (w : World), 0 ≤ ino → ino ≤ 4294967295 → -9223372036854775808 ≤ n → n ≤ 9223372036854775807 → Calls Try.prog 10 #[.int .u32 ino, .int .i64 n] w (Txt (kD ino n) w)
def SplitOk : Prop := ∀ (key : ByteArray) (w : World), key.size ≤ 100000 → Calls Try.prog 15 #[.string key] w (SpE (sp key) w)
def NameOk : Prop := ∀ (s : ByteArray) (w : World), s.size ≤ 100000 → Calls Try.prog 12 #[.string s] w fun e w' => e = .returned (.bool (nameOk s)) ∧ Below w.heap.size w w'
theorem ex_entry : kE 1 ⟨#[97]⟩ = ⟨#[69, 0, 0, 0, 1, 97]⟩ := by decide +kernel
theorem ex_name : nameOk ⟨#[97]⟩ = true := by decide +kernel
theorem ex_dots : nameOk ⟨#[46, 46]⟩ = false := by decide +kernel
set_option maxHeartbeats 1000000 in
theorem fixed_calls (hE : EntryOk) (hN : NameOk) (w : World) : Calls Try.prog 14 #[] w fun e w' => e = .returned (.bool true) ∧ Below w.heap.size w w' := by
  have HE := Lib.hid (fun w => hE 1 ⟨#[97]⟩ w (by omega) (by omega) (by decide))
  rw [ex_entry] at HE
  have H1 := Lib.hid (fun w => hN ⟨#[97]⟩ w (by decide))
  rw [ex_name] at H1
  have H2 := Lib.hid (fun w => hN ⟨#[46, 46]⟩ w (by decide))
  rw [ex_dots] at H2
  clear hE hN
  go_enter Try.func14, Try.ntmps14
  go_wp2_with fail
  refine (HE.out _).mono ?_
  rintro e w1 ⟨rfl, hb1⟩
  have HB1 := Lib.hid hb1
  clear hb1
  go_wp2_with fail
  refine (H1.out _).mono ?_
  rintro e w2 ⟨rfl, hb2⟩
  have HB2 := Lib.hid (keeps HB1.out hb2)
  clear hb2
  go_wp2_with fail
  refine (H2.out _).mono ?_
  rintro e w3 ⟨rfl, hb3⟩
  have HB3 := Lib.hid (keeps HB2.out hb3)
  clear hb3
  go_wp2_with fail
  go_ret
  exact ⟨rfl, HB3.out⟩
/-- The law's fixed, as the walks take it. -/
def FixOk : Prop := ∀ w : World, Calls Try.prog 14 #[] w fun e w' => e = .returned (.bool true) ∧ Below w.heap.size w w'
set_option maxRecDepth 100000 in
set_option maxHeartbeats 4000000 in
theorem split_law (hI : InodeOk) (hE : EntryOk) (hD : BlockOk) (hS : SplitOk) (hF : FixOk) (key : ByteArray) (w : World) (hk : key.size ≤ maxLen) :
    Calls Try.prog 4 #[.string key] w fun e w' => e = .returned (.bool true) ∧ Below w.heap.size w w' := by
  unfold maxLen at hk
  have HF := Lib.hid hF
  by_cases hbig : 3000 < key.size
  · have d : decide ((3000 : Int) < (key.size : Int)) = true := by simp; omega
    clear hI hE hD hS hF
    go_enter Try.func4, Try.ntmps4
    go_wp2_with fail
    refine (HF.out _).mono ?_
    rintro e w1 ⟨rfl, hb1⟩
    have HB1 := Lib.hid hb1
    clear hb1
    go_wp2_with fail
    go_ret
    exact ⟨rfl, HB1.out⟩
  · have d : decide ((3000 : Int) < (key.size : Int)) = false := by simp; omega
    have HS := Lib.hid (fun w => hS key w (by omega))
    have HR := Lib.hid (fun w => refsplit_calls key w (by omega))
    have hgb := getn_bd key
    rcases sp_ways key with h | ⟨h0, h⟩ | ⟨h0, h, h'⟩ | ⟨h0, h⟩
    · rw [h] at HS HR
      unfold SpE at HS HR
      clear h hI hE hD hS hF
      go_enter Try.func4, Try.ntmps4
      go_wp2_with fail
      refine (HS.out _).mono ?_
      rintro e w1 ⟨rfl, hb1⟩
      have HB1 := Lib.hid hb1
      clear hb1
      go_wp2_with fail
      refine (HR.out _).mono ?_
      rintro e w2 ⟨rfl, hb2⟩
      have HB2 := Lib.hid (keeps HB1.out hb2)
      clear hb2
      go_wp2_with fail
      refine (HF.out _).mono ?_
      rintro e w3 ⟨rfl, hb3⟩
      have HB3 := Lib.hid (keeps HB2.out hb3)
      clear hb3
      go_wp2_with fail
      go_ret
      exact ⟨rfl, HB3.out⟩
    · rw [sp_73 h0 h] at HS HR
      have HK := Lib.hid (fun w => hI (PackM.getn (txt key) 1 4) w hgb.1 hgb.2)
      rw [back_I h0 h] at HK
      unfold SpE at HS HR
      generalize PackM.getn (txt key) 1 4 = ino at HS HR HK hgb
      clear h h0 hI hE hD hS hF
      go_enter Try.func4, Try.ntmps4
      go_wp2_with fail
      refine (HS.out _).mono ?_
      rintro e w1 ⟨rfl, hb1⟩
      have HB1 := Lib.hid hb1
      clear hb1
      go_wp2_with fail
      refine (HR.out _).mono ?_
      rintro e w2 ⟨rfl, hb2⟩
      have HB2 := Lib.hid (keeps HB1.out hb2)
      clear hb2
      go_wp2_with fail
      refine (HF.out _).mono ?_
      rintro e w3 ⟨rfl, hb3⟩
      have HB3 := Lib.hid (keeps HB2.out hb3)
      clear hb3
      go_wp2_with fail
      refine (HK.out _).mono ?_
      rintro e w4 ⟨rfl, hb4⟩
      have HB4 := Lib.hid (keeps HB3.out hb4)
      clear hb4
      go_wp2_with fail
      go_ret
      exact ⟨rfl, HB4.out⟩
    · rw [sp_69 h0 h h'] at HS HR
      have HK := Lib.hid (fun w => hE (PackM.getn (txt key) 1 4) (key.extract 5 key.size) w hgb.1 hgb.2 (by simp; omega))
      rw [back_E h0 h h'] at HK
      unfold SpE at HS HR
      generalize PackM.getn (txt key) 1 4 = ino at HS HR HK hgb
      generalize key.extract 5 key.size = name at HS HR HK
      clear h h0 h' hI hE hD hS hF
      go_enter Try.func4, Try.ntmps4
      go_wp2_with fail
      refine (HS.out _).mono ?_
      rintro e w1 ⟨rfl, hb1⟩
      have HB1 := Lib.hid hb1
      clear hb1
      go_wp2_with fail
      refine (HR.out _).mono ?_
      rintro e w2 ⟨rfl, hb2⟩
      have HB2 := Lib.hid (keeps HB1.out hb2)
      clear hb2
      go_wp2_with fail
      refine (HF.out _).mono ?_
      rintro e w3 ⟨rfl, hb3⟩
      have HB3 := Lib.hid (keeps HB2.out hb3)
      clear hb3
      go_wp2_with fail
      refine (HK.out _).mono ?_
      rintro e w4 ⟨rfl, hb4⟩
      have HB4 := Lib.hid (keeps HB3.out hb4)
      clear hb4
      go_wp2_with fail
      go_ret
      exact ⟨rfl, HB4.out⟩
    · rw [sp_68 h0 h] at HS HR
      obtain ⟨q1, q2, q3⟩ := back_D h0 h
      have HK := Lib.hid (fun w => hD (PackM.getn (txt key) 1 4) (256 * (txt key).getD 5 0 + (txt key).getD 6 0) w hgb.1 hgb.2 (by omega) (by omega))
      rw [q1] at HK
      unfold SpE at HS HR
      generalize PackM.getn (txt key) 1 4 = ino at HS HR HK hgb
      generalize 256 * (txt key).getD 5 0 + (txt key).getD 6 0 = n at HS HR HK q2 q3
      clear h h0 q1 hI hE hD hS hF
      go_enter Try.func4, Try.ntmps4
      go_wp2_with fail
      refine (HS.out _).mono ?_
      rintro e w1 ⟨rfl, hb1⟩
      have HB1 := Lib.hid hb1
      clear hb1
      go_wp2_with fail
      refine (HR.out _).mono ?_
      rintro e w2 ⟨rfl, hb2⟩
      have HB2 := Lib.hid (keeps HB1.out hb2)
      clear hb2
      go_wp2_with fail
      refine (HF.out _).mono ?_
      rintro e w3 ⟨rfl, hb3⟩
      have HB3 := Lib.hid (keeps HB2.out hb3)
      clear hb3
      go_wp2_with fail
      refine (HK.out _).mono ?_
      rintro e w4 ⟨rfl, hb4⟩
      have HB4 := Lib.hid (keeps HB3.out hb4)
      clear hb4
      go_wp2_with fail
      go_ret
      exact ⟨rfl, HB4.out⟩
end Go.Proofs.Ytipiibjghmafjaa.KeysL
