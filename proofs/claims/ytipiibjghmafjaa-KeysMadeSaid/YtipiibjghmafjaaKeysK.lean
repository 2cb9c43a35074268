/- The walk of layer 9's law KeysMade, over what the project's functions are asked. -/
import Derived.Test.YtipiibjghmafjaaKeysL
namespace Go.Proofs.Ytipiibjghmafjaa.KeysK
set_option linter.unusedVariables false
set_option linter.unusedSimpArgs false
open Go.RowKit
open Go.Proofs.Ytipiibjghmafjaa.Byte Go.Proofs.Ytipiibjghmafjaa.KeysM Go.Proofs.Ytipiibjghmafjaa.KeysR Go.Proofs.Ytipiibjghmafjaa.KeysS Go.Proofs.Ytipiibjghmafjaa.KeysN Go.Proofs.Ytipiibjghmafjaa.KeysL

theorem kE_size (ino : Int) (name : ByteArray) : (kE ino name).size ≤ 100000 := by
  unfold kE
  split
  · decide
  · rw [ByteArray.size_append, ks_size]
    omega
theorem kD_size (ino n : Int) : (kD ino n).size ≤ 100000 := by
  unfold kD
  split
  · decide
  · rw [ByteArray.size_append, ks_size, str_size]
    simp
theorem sp_any (s : ByteArray) : ∃ a b c d, sp s = ⟨a, b, c, d⟩ := ⟨_, _, _, _, rfl⟩
set_option maxRecDepth 100000 in
set_option maxHeartbeats 4000000 in
theorem made_big (hF : FixOk) (ino n : Int) (name : ByteArray) (w : World) (hb : 3000 < name.size) (hk : name.size ≤ 9223372036854775807) : Calls Try.prog 3 #[.int .u32 ino, .string name, .int .i64 n] w fun e w' => e = .returned (.bool true) ∧ Below w.heap.size w w' := by
  have HF := Lib.hid hF
  have d : decide ((3000 : Int) < (name.size : Int)) = true := by simp; omega
  clear hF
  go_enter Try.func3, Try.ntmps3
  go_wp2_with fail
  refine (HF.out _).mono ?_
  rintro e w1 ⟨rfl, hb1⟩
  have HB1 := Lib.hid hb1
  clear hb1
  go_wp2_with fail
  go_ret
  exact ⟨rfl, HB1.out⟩
set_option maxRecDepth 100000 in
set_option maxHeartbeats 4000000 in
theorem made_en (hI : InodeOk) (hE : EntryOk) (hD : BlockOk) (hS : SplitOk) (hN : NameOk) (hF : FixOk) (ino n : Int) (w : World) (h0 : 0 ≤ ino) (h1 : ino ≤ 4294967295) (h2 : -9223372036854775808 ≤ n) (h3 : n ≤ 9223372036854775807) (hn : n < 0) : Calls Try.prog 3 #[.int .u32 ino, .string ⟨#[]⟩, .int .i64 n] w fun e w' => e = .returned (.bool true) ∧ Below w.heap.size w w' := by
  have HF := Lib.hid hF
  have HI := Lib.hid (fun w => hI ino w h0 h1)
  have RI := Lib.hid (fun w => refI_calls ino w h0 h1)
  have HE := Lib.hid (fun w => hE ino ⟨#[]⟩ w h0 h1 (by decide))
  have RE := Lib.hid (fun w => refE_calls ino ⟨#[]⟩ w (by first | decide | (unfold maxLen; omega)) h0 h1)
  have HD := Lib.hid (fun w => hD ino n w h0 h1 h2 h3)
  have RD := Lib.hid (fun w => refD_calls ino n w h0 h1)
  have HN := Lib.hid (fun w => hN ⟨#[]⟩ w (by decide))
  have RN := Lib.hid (fun w => refname_calls ⟨#[]⟩ w (by first | decide | omega))
  have SI := Lib.hid (fun w => hS (kI ino) w (by unfold kI; rw [ks_size]; omega))
  rw [sp_I ino h0 h1] at SI
  have SE := Lib.hid (fun w => hS (kE ino ⟨#[]⟩) w (kE_size _ _))
  obtain ⟨ea, eb, ec, ed, he⟩ := sp_any (kE ino ⟨#[]⟩)
  rw [he] at SE
  clear he
  have SD := Lib.hid (fun w => hS (kD ino n) w (kD_size _ _))
  obtain ⟨da, db, dc, dd, hd⟩ := sp_any (kD ino n)
  rw [hd] at SD
  clear hd
  unfold SpE at SI SE SD
  generalize kI ino = sI at HI RI SI
  generalize kE ino ⟨#[]⟩ = sE at HE RE SE
  generalize kD ino n = sD at HD RD SD
  generalize nameOk ⟨#[]⟩ = bN at HN RN
  have d3 : decide (n < (0 : Int)) = true := by simp; omega
  clear hI hE hD hS hN hF
  go_enter Try.func3, Try.ntmps3
  go_wp2_with fail
  refine (HI.out _).mono ?_
  rintro e w0 ⟨rfl, hb0⟩
  have HB0 := Lib.hid hb0
  clear hb0
  go_wp2_with fail
  refine (RI.out _).mono ?_
  rintro e w1 ⟨rfl, hb1⟩
  have HB1 := Lib.hid (keeps HB0.out hb1)
  clear hb1
  go_wp2_with fail
  refine (HE.out _).mono ?_
  rintro e w2 ⟨rfl, hb2⟩
  have HB2 := Lib.hid (keeps HB1.out hb2)
  clear hb2
  go_wp2_with fail
  refine (RE.out _).mono ?_
  rintro e w3 ⟨rfl, hb3⟩
  have HB3 := Lib.hid (keeps HB2.out hb3)
  clear hb3
  go_wp2_with fail
  refine (HD.out _).mono ?_
  rintro e w4 ⟨rfl, hb4⟩
  have HB4 := Lib.hid (keeps HB3.out hb4)
  clear hb4
  go_wp2_with fail
  refine (RD.out _).mono ?_
  rintro e w5 ⟨rfl, hb5⟩
  have HB5 := Lib.hid (keeps HB4.out hb5)
  clear hb5
  go_wp2_with fail
  refine (HN.out _).mono ?_
  rintro e w6 ⟨rfl, hb6⟩
  have HB6 := Lib.hid (keeps HB5.out hb6)
  clear hb6
  go_wp2_with fail
  refine (RN.out _).mono ?_
  rintro e w' ⟨rfl, rfl⟩
  go_wp2_with fail
  refine (HI.out _).mono ?_
  rintro e w8 ⟨rfl, hb8⟩
  have HB8 := Lib.hid (keeps HB6.out hb8)
  clear hb8
  go_wp2_with fail
  refine (SI.out _).mono ?_
  rintro e w9 ⟨rfl, hb9⟩
  have HB9 := Lib.hid (keeps HB8.out hb9)
  clear hb9
  go_wp2_with fail
  refine (HE.out _).mono ?_
  rintro e w10 ⟨rfl, hb10⟩
  have HB10 := Lib.hid (keeps HB9.out hb10)
  clear hb10
  go_wp2_with fail
  refine (SE.out _).mono ?_
  rintro e w11 ⟨rfl, hb11⟩
  have HB11 := Lib.hid (keeps HB10.out hb11)
  clear hb11
  go_wp2_with fail
  refine (HD.out _).mono ?_
  rintro e w12 ⟨rfl, hb12⟩
  have HB12 := Lib.hid (keeps HB11.out hb12)
  clear hb12
  go_wp2_with fail
  refine (SD.out _).mono ?_
  rintro e w13 ⟨rfl, hb13⟩
  have HB13 := Lib.hid (keeps HB12.out hb13)
  clear hb13
  go_wp2_with fail
  refine (HF.out _).mono ?_
  rintro e w14 ⟨rfl, hb14⟩
  have HB14 := Lib.hid (keeps HB13.out hb14)
  clear hb14
  go_wp2_with fail
  go_ret
  exact ⟨rfl, HB14.out⟩
set_option maxRecDepth 100000 in
set_option maxHeartbeats 4000000 in
theorem made_eg (hI : InodeOk) (hE : EntryOk) (hD : BlockOk) (hS : SplitOk) (hN : NameOk) (hF : FixOk) (ino n : Int) (w : World) (h0 : 0 ≤ ino) (h1 : ino ≤ 4294967295) (h2 : -9223372036854775808 ≤ n) (h3 : n ≤ 9223372036854775807) (hn : 65535 < n) : Calls Try.prog 3 #[.int .u32 ino, .string ⟨#[]⟩, .int .i64 n] w fun e w' => e = .returned (.bool true) ∧ Below w.heap.size w w' := by
  have HF := Lib.hid hF
  have HI := Lib.hid (fun w => hI ino w h0 h1)
  have RI := Lib.hid (fun w => refI_calls ino w h0 h1)
  have HE := Lib.hid (fun w => hE ino ⟨#[]⟩ w h0 h1 (by decide))
  have RE := Lib.hid (fun w => refE_calls ino ⟨#[]⟩ w (by first | decide | (unfold maxLen; omega)) h0 h1)
  have HD := Lib.hid (fun w => hD ino n w h0 h1 h2 h3)
  have RD := Lib.hid (fun w => refD_calls ino n w h0 h1)
  have HN := Lib.hid (fun w => hN ⟨#[]⟩ w (by decide))
  have RN := Lib.hid (fun w => refname_calls ⟨#[]⟩ w (by first | decide | omega))
  have SI := Lib.hid (fun w => hS (kI ino) w (by unfold kI; rw [ks_size]; omega))
  rw [sp_I ino h0 h1] at SI
  have SE := Lib.hid (fun w => hS (kE ino ⟨#[]⟩) w (kE_size _ _))
  obtain ⟨ea, eb, ec, ed, he⟩ := sp_any (kE ino ⟨#[]⟩)
  rw [he] at SE
  clear he
  have SD := Lib.hid (fun w => hS (kD ino n) w (kD_size _ _))
  obtain ⟨da, db, dc, dd, hd⟩ := sp_any (kD ino n)
  rw [hd] at SD
  clear hd
  unfold SpE at SI SE SD
  generalize kI ino = sI at HI RI SI
  generalize kE ino ⟨#[]⟩ = sE at HE RE SE
  generalize kD ino n = sD at HD RD SD
  generalize nameOk ⟨#[]⟩ = bN at HN RN
  have d3 : decide (n < (0 : Int)) = false := by simp; omega
  have d4 : decide ((65535 : Int) < n) = true := by simp; omega
  clear hI hE hD hS hN hF
  go_enter Try.func3, Try.ntmps3
  go_wp2_with fail
  refine (HI.out _).mono ?_
  rintro e w0 ⟨rfl, hb0⟩
  have HB0 := Lib.hid hb0
  clear hb0
  go_wp2_with fail
  refine (RI.out _).mono ?_
  rintro e w1 ⟨rfl, hb1⟩
  have HB1 := Lib.hid (keeps HB0.out hb1)
  clear hb1
  go_wp2_with fail
  refine (HE.out _).mono ?_
  rintro e w2 ⟨rfl, hb2⟩
  have HB2 := Lib.hid (keeps HB1.out hb2)
  clear hb2
  go_wp2_with fail
  refine (RE.out _).mono ?_
  rintro e w3 ⟨rfl, hb3⟩
  have HB3 := Lib.hid (keeps HB2.out hb3)
  clear hb3
  go_wp2_with fail
  refine (HD.out _).mono ?_
  rintro e w4 ⟨rfl, hb4⟩
  have HB4 := Lib.hid (keeps HB3.out hb4)
  clear hb4
  go_wp2_with fail
  refine (RD.out _).mono ?_
  rintro e w5 ⟨rfl, hb5⟩
  have HB5 := Lib.hid (keeps HB4.out hb5)
  clear hb5
  go_wp2_with fail
  refine (HN.out _).mono ?_
  rintro e w6 ⟨rfl, hb6⟩
  have HB6 := Lib.hid (keeps HB5.out hb6)
  clear hb6
  go_wp2_with fail
  refine (RN.out _).mono ?_
  rintro e w' ⟨rfl, rfl⟩
  go_wp2_with fail
  refine (HI.out _).mono ?_
  rintro e w8 ⟨rfl, hb8⟩
  have HB8 := Lib.hid (keeps HB6.out hb8)
  clear hb8
  go_wp2_with fail
  refine (SI.out _).mono ?_
  rintro e w9 ⟨rfl, hb9⟩
  have HB9 := Lib.hid (keeps HB8.out hb9)
  clear hb9
  go_wp2_with fail
  refine (HE.out _).mono ?_
  rintro e w10 ⟨rfl, hb10⟩
  have HB10 := Lib.hid (keeps HB9.out hb10)
  clear hb10
  go_wp2_with fail
  refine (SE.out _).mono ?_
  rintro e w11 ⟨rfl, hb11⟩
  have HB11 := Lib.hid (keeps HB10.out hb11)
  clear hb11
  go_wp2_with fail
  refine (HD.out _).mono ?_
  rintro e w12 ⟨rfl, hb12⟩
  have HB12 := Lib.hid (keeps HB11.out hb12)
  clear hb12
  go_wp2_with fail
  refine (SD.out _).mono ?_
  rintro e w13 ⟨rfl, hb13⟩
  have HB13 := Lib.hid (keeps HB12.out hb13)
  clear hb13
  go_wp2_with fail
  refine (HF.out _).mono ?_
  rintro e w14 ⟨rfl, hb14⟩
  have HB14 := Lib.hid (keeps HB13.out hb14)
  clear hb14
  go_wp2_with fail
  go_ret
  exact ⟨rfl, HB14.out⟩
set_option maxRecDepth 100000 in
set_option maxHeartbeats 4000000 in
theorem made_ei (hI : InodeOk) (hE : EntryOk) (hD : BlockOk) (hS : SplitOk) (hN : NameOk) (hF : FixOk) (ino n : Int) (w : World) (h0 : 0 ≤ ino) (h1 : ino ≤ 4294967295) (h2 : -9223372036854775808 ≤ n) (h3 : n ≤ 9223372036854775807) (hn : 0 ≤ n) (hn2 : n ≤ 65535) : Calls Try.prog 3 #[.int .u32 ino, .string ⟨#[]⟩, .int .i64 n] w fun e w' => e = .returned (.bool true) ∧ Below w.heap.size w w' := by
  have HF := Lib.hid hF
  have HI := Lib.hid (fun w => hI ino w h0 h1)
  have RI := Lib.hid (fun w => refI_calls ino w h0 h1)
  have HE := Lib.hid (fun w => hE ino ⟨#[]⟩ w h0 h1 (by decide))
  have RE := Lib.hid (fun w => refE_calls ino ⟨#[]⟩ w (by first | decide | (unfold maxLen; omega)) h0 h1)
  have HD := Lib.hid (fun w => hD ino n w h0 h1 h2 h3)
  have RD := Lib.hid (fun w => refD_calls ino n w h0 h1)
  have HN := Lib.hid (fun w => hN ⟨#[]⟩ w (by decide))
  have RN := Lib.hid (fun w => refname_calls ⟨#[]⟩ w (by first | decide | omega))
  have SI := Lib.hid (fun w => hS (kI ino) w (by unfold kI; rw [ks_size]; omega))
  rw [sp_I ino h0 h1] at SI
  have SE := Lib.hid (fun w => hS (kE ino ⟨#[]⟩) w (kE_size _ _))
  obtain ⟨ea, eb, ec, ed, he⟩ := sp_any (kE ino ⟨#[]⟩)
  rw [he] at SE
  clear he
  have SD := Lib.hid (fun w => hS (kD ino n) w (kD_size _ _))
  rw [sp_D ino n h0 h1 hn hn2] at SD
  unfold SpE at SI SE SD
  generalize kI ino = sI at HI RI SI
  generalize kE ino ⟨#[]⟩ = sE at HE RE SE
  generalize kD ino n = sD at HD RD SD
  generalize nameOk ⟨#[]⟩ = bN at HN RN
  have d3 : decide (n < (0 : Int)) = false := by simp; omega
  have d4 : decide ((65535 : Int) < n) = false := by simp; omega
  clear hI hE hD hS hN hF
  go_enter Try.func3, Try.ntmps3
  go_wp2_with fail
  refine (HI.out _).mono ?_
  rintro e w0 ⟨rfl, hb0⟩
  have HB0 := Lib.hid hb0
  clear hb0
  go_wp2_with fail
  refine (RI.out _).mono ?_
  rintro e w1 ⟨rfl, hb1⟩
  have HB1 := Lib.hid (keeps HB0.out hb1)
  clear hb1
  go_wp2_with fail
  refine (HE.out _).mono ?_
  rintro e w2 ⟨rfl, hb2⟩
  have HB2 := Lib.hid (keeps HB1.out hb2)
  clear hb2
  go_wp2_with fail
  refine (RE.out _).mono ?_
  rintro e w3 ⟨rfl, hb3⟩
  have HB3 := Lib.hid (keeps HB2.out hb3)
  clear hb3
  go_wp2_with fail
  refine (HD.out _).mono ?_
  rintro e w4 ⟨rfl, hb4⟩
  have HB4 := Lib.hid (keeps HB3.out hb4)
  clear hb4
  go_wp2_with fail
  refine (RD.out _).mono ?_
  rintro e w5 ⟨rfl, hb5⟩
  have HB5 := Lib.hid (keeps HB4.out hb5)
  clear hb5
  go_wp2_with fail
  refine (HN.out _).mono ?_
  rintro e w6 ⟨rfl, hb6⟩
  have HB6 := Lib.hid (keeps HB5.out hb6)
  clear hb6
  go_wp2_with fail
  refine (RN.out _).mono ?_
  rintro e w' ⟨rfl, rfl⟩
  go_wp2_with fail
  refine (HI.out _).mono ?_
  rintro e w8 ⟨rfl, hb8⟩
  have HB8 := Lib.hid (keeps HB6.out hb8)
  clear hb8
  go_wp2_with fail
  refine (SI.out _).mono ?_
  rintro e w9 ⟨rfl, hb9⟩
  have HB9 := Lib.hid (keeps HB8.out hb9)
  clear hb9
  go_wp2_with fail
  refine (HE.out _).mono ?_
  rintro e w10 ⟨rfl, hb10⟩
  have HB10 := Lib.hid (keeps HB9.out hb10)
  clear hb10
  go_wp2_with fail
  refine (SE.out _).mono ?_
  rintro e w11 ⟨rfl, hb11⟩
  have HB11 := Lib.hid (keeps HB10.out hb11)
  clear hb11
  go_wp2_with fail
  refine (HD.out _).mono ?_
  rintro e w12 ⟨rfl, hb12⟩
  have HB12 := Lib.hid (keeps HB11.out hb12)
  clear hb12
  go_wp2_with fail
  refine (SD.out _).mono ?_
  rintro e w13 ⟨rfl, hb13⟩
  have HB13 := Lib.hid (keeps HB12.out hb13)
  clear hb13
  go_wp2_with fail
  refine (HF.out _).mono ?_
  rintro e w14 ⟨rfl, hb14⟩
  have HB14 := Lib.hid (keeps HB13.out hb14)
  clear hb14
  go_wp2_with fail
  go_ret
  exact ⟨rfl, HB14.out⟩
set_option maxRecDepth 100000 in
set_option maxHeartbeats 4000000 in
theorem made_sn (hI : InodeOk) (hE : EntryOk) (hD : BlockOk) (hS : SplitOk) (hN : NameOk) (hF : FixOk) (ino n : Int) (name : ByteArray) (w : World) (h0 : 0 ≤ ino) (h1 : ino ≤ 4294967295) (h2 : -9223372036854775808 ≤ n) (h3 : n ≤ 9223372036854775807) (ha0 : 0 < name.size) (ha : name.size ≤ 32) (hn : n < 0) : Calls Try.prog 3 #[.int .u32 ino, .string name, .int .i64 n] w fun e w' => e = .returned (.bool true) ∧ Below w.heap.size w w' := by
  have HF := Lib.hid hF
  have HI := Lib.hid (fun w => hI ino w h0 h1)
  have RI := Lib.hid (fun w => refI_calls ino w h0 h1)
  have HE := Lib.hid (fun w => hE ino name w h0 h1 (by omega))
  have RE := Lib.hid (fun w => refE_calls ino name w (by first | decide | (unfold maxLen; omega)) h0 h1)
  have HD := Lib.hid (fun w => hD ino n w h0 h1 h2 h3)
  have RD := Lib.hid (fun w => refD_calls ino n w h0 h1)
  have HN := Lib.hid (fun w => hN name w (by omega))
  have RN := Lib.hid (fun w => refname_calls name w (by first | decide | omega))
  have SI := Lib.hid (fun w => hS (kI ino) w (by unfold kI; rw [ks_size]; omega))
  rw [sp_I ino h0 h1] at SI
  have SE := Lib.hid (fun w => hS (kE ino name) w (kE_size _ _))
  rw [sp_E ino name h0 h1 ha0 ha] at SE
  have SD := Lib.hid (fun w => hS (kD ino n) w (kD_size _ _))
  obtain ⟨da, db, dc, dd, hd⟩ := sp_any (kD ino n)
  rw [hd] at SD
  clear hd
  unfold SpE at SI SE SD
  generalize kI ino = sI at HI RI SI
  generalize kE ino name = sE at HE RE SE
  generalize kD ino n = sD at HD RD SD
  generalize nameOk name = bN at HN RN
  have d : decide ((3000 : Int) < (name.size : Int)) = false := by simp; omega
  have hne : ¬ name.toList = [] := by
    intro h
    have := congrArg List.length h
    rw [toList_d] at this
    have hz : name.data.toList.length = name.size := by rw [Array.length_toList]; rfl
    rw [hz] at this
    have h9 : name.size = 0 := this
    omega
  have hne2 : name.toList.isEmpty = false := by rw [List.isEmpty_eq_false_iff]; exact hne
  have hne3 : (name.toList == []) = false := by rw [beq_eq_false_iff_ne]; exact hne
  have d2 : decide ((name.size : Int) ≤ 32) = true := by simp; omega
  have d3 : decide (n < (0 : Int)) = true := by simp; omega
  clear hI hE hD hS hN hF
  go_enter Try.func3, Try.ntmps3
  go_wp2_with fail
  refine (HI.out _).mono ?_
  rintro e w0 ⟨rfl, hb0⟩
  have HB0 := Lib.hid hb0
  clear hb0
  go_wp2_with fail
  refine (RI.out _).mono ?_
  rintro e w1 ⟨rfl, hb1⟩
  have HB1 := Lib.hid (keeps HB0.out hb1)
  clear hb1
  go_wp2_with fail
  refine (HE.out _).mono ?_
  rintro e w2 ⟨rfl, hb2⟩
  have HB2 := Lib.hid (keeps HB1.out hb2)
  clear hb2
  go_wp2_with fail
  refine (RE.out _).mono ?_
  rintro e w3 ⟨rfl, hb3⟩
  have HB3 := Lib.hid (keeps HB2.out hb3)
  clear hb3
  go_wp2_with fail
  refine (HD.out _).mono ?_
  rintro e w4 ⟨rfl, hb4⟩
  have HB4 := Lib.hid (keeps HB3.out hb4)
  clear hb4
  go_wp2_with fail
  refine (RD.out _).mono ?_
  rintro e w5 ⟨rfl, hb5⟩
  have HB5 := Lib.hid (keeps HB4.out hb5)
  clear hb5
  go_wp2_with fail
  refine (HN.out _).mono ?_
  rintro e w6 ⟨rfl, hb6⟩
  have HB6 := Lib.hid (keeps HB5.out hb6)
  clear hb6
  go_wp2_with fail
  refine (RN.out _).mono ?_
  rintro e w' ⟨rfl, rfl⟩
  go_wp2_with fail
  refine (HI.out _).mono ?_
  rintro e w8 ⟨rfl, hb8⟩
  have HB8 := Lib.hid (keeps HB6.out hb8)
  clear hb8
  go_wp2_with fail
  refine (SI.out _).mono ?_
  rintro e w9 ⟨rfl, hb9⟩
  have HB9 := Lib.hid (keeps HB8.out hb9)
  clear hb9
  go_wp2_with fail
  refine (HE.out _).mono ?_
  rintro e w10 ⟨rfl, hb10⟩
  have HB10 := Lib.hid (keeps HB9.out hb10)
  clear hb10
  go_wp2_with fail
  refine (SE.out _).mono ?_
  rintro e w11 ⟨rfl, hb11⟩
  have HB11 := Lib.hid (keeps HB10.out hb11)
  clear hb11
  go_wp2_with fail
  refine (HD.out _).mono ?_
  rintro e w12 ⟨rfl, hb12⟩
  have HB12 := Lib.hid (keeps HB11.out hb12)
  clear hb12
  go_wp2_with fail
  refine (SD.out _).mono ?_
  rintro e w13 ⟨rfl, hb13⟩
  have HB13 := Lib.hid (keeps HB12.out hb13)
  clear hb13
  go_wp2_with fail
  refine (HF.out _).mono ?_
  rintro e w14 ⟨rfl, hb14⟩
  have HB14 := Lib.hid (keeps HB13.out hb14)
  clear hb14
  go_wp2_with fail
  go_ret
  exact ⟨rfl, HB14.out⟩
set_option maxRecDepth 100000 in
set_option maxHeartbeats 4000000 in
theorem made_sg (hI : InodeOk) (hE : EntryOk) (hD : BlockOk) (hS : SplitOk) (hN : NameOk) (hF : FixOk) (ino n : Int) (name : ByteArray) (w : World) (h0 : 0 ≤ ino) (h1 : ino ≤ 4294967295) (h2 : -9223372036854775808 ≤ n) (h3 : n ≤ 9223372036854775807) (ha0 : 0 < name.size) (ha : name.size ≤ 32) (hn : 65535 < n) : Calls Try.prog 3 #[.int .u32 ino, .string name, .int .i64 n] w fun e w' => e = .returned (.bool true) ∧ Below w.heap.size w w' := by
  have HF := Lib.hid hF
  have HI := Lib.hid (fun w => hI ino w h0 h1)
  have RI := Lib.hid (fun w => refI_calls ino w h0 h1)
  have HE := Lib.hid (fun w => hE ino name w h0 h1 (by omega))
  have RE := Lib.hid (fun w => refE_calls ino name w (by first | decide | (unfold maxLen; omega)) h0 h1)
  have HD := Lib.hid (fun w => hD ino n w h0 h1 h2 h3)
  have RD := Lib.hid (fun w => refD_calls ino n w h0 h1)
  have HN := Lib.hid (fun w => hN name w (by omega))
  have RN := Lib.hid (fun w => refname_calls name w (by first | decide | omega))
  have SI := Lib.hid (fun w => hS (kI ino) w (by unfold kI; rw [ks_size]; omega))
  rw [sp_I ino h0 h1] at SI
  have SE := Lib.hid (fun w => hS (kE ino name) w (kE_size _ _))
  rw [sp_E ino name h0 h1 ha0 ha] at SE
  have SD := Lib.hid (fun w => hS (kD ino n) w (kD_size _ _))
  obtain ⟨da, db, dc, dd, hd⟩ := sp_any (kD ino n)
  rw [hd] at SD
  clear hd
  unfold SpE at SI SE SD
  generalize kI ino = sI at HI RI SI
  generalize kE ino name = sE at HE RE SE
  generalize kD ino n = sD at HD RD SD
  generalize nameOk name = bN at HN RN
  have d : decide ((3000 : Int) < (name.size : Int)) = false := by simp; omega
  have hne : ¬ name.toList = [] := by
    intro h
    have := congrArg List.length h
    rw [toList_d] at this
    have hz : name.data.toList.length = name.size := by rw [Array.length_toList]; rfl
    rw [hz] at this
    have h9 : name.size = 0 := this
    omega
  have hne2 : name.toList.isEmpty = false := by rw [List.isEmpty_eq_false_iff]; exact hne
  have hne3 : (name.toList == []) = false := by rw [beq_eq_false_iff_ne]; exact hne
  have d2 : decide ((name.size : Int) ≤ 32) = true := by simp; omega
  have d3 : decide (n < (0 : Int)) = false := by simp; omega
  have d4 : decide ((65535 : Int) < n) = true := by simp; omega
  clear hI hE hD hS hN hF
  go_enter Try.func3, Try.ntmps3
  go_wp2_with fail
  refine (HI.out _).mono ?_
  rintro e w0 ⟨rfl, hb0⟩
  have HB0 := Lib.hid hb0
  clear hb0
  go_wp2_with fail
  refine (RI.out _).mono ?_
  rintro e w1 ⟨rfl, hb1⟩
  have HB1 := Lib.hid (keeps HB0.out hb1)
  clear hb1
  go_wp2_with fail
  refine (HE.out _).mono ?_
  rintro e w2 ⟨rfl, hb2⟩
  have HB2 := Lib.hid (keeps HB1.out hb2)
  clear hb2
  go_wp2_with fail
  refine (RE.out _).mono ?_
  rintro e w3 ⟨rfl, hb3⟩
  have HB3 := Lib.hid (keeps HB2.out hb3)
  clear hb3
  go_wp2_with fail
  refine (HD.out _).mono ?_
  rintro e w4 ⟨rfl, hb4⟩
  have HB4 := Lib.hid (keeps HB3.out hb4)
  clear hb4
  go_wp2_with fail
  refine (RD.out _).mono ?_
  rintro e w5 ⟨rfl, hb5⟩
  have HB5 := Lib.hid (keeps HB4.out hb5)
  clear hb5
  go_wp2_with fail
  refine (HN.out _).mono ?_
  rintro e w6 ⟨rfl, hb6⟩
  have HB6 := Lib.hid (keeps HB5.out hb6)
  clear hb6
  go_wp2_with fail
  refine (RN.out _).mono ?_
  rintro e w' ⟨rfl, rfl⟩
  go_wp2_with fail
  refine (HI.out _).mono ?_
  rintro e w8 ⟨rfl, hb8⟩
  have HB8 := Lib.hid (keeps HB6.out hb8)
  clear hb8
  go_wp2_with fail
  refine (SI.out _).mono ?_
  rintro e w9 ⟨rfl, hb9⟩
  have HB9 := Lib.hid (keeps HB8.out hb9)
  clear hb9
  go_wp2_with fail
  refine (HE.out _).mono ?_
  rintro e w10 ⟨rfl, hb10⟩
  have HB10 := Lib.hid (keeps HB9.out hb10)
  clear hb10
  go_wp2_with fail
  refine (SE.out _).mono ?_
  rintro e w11 ⟨rfl, hb11⟩
  have HB11 := Lib.hid (keeps HB10.out hb11)
  clear hb11
  go_wp2_with fail
  refine (HD.out _).mono ?_
  rintro e w12 ⟨rfl, hb12⟩
  have HB12 := Lib.hid (keeps HB11.out hb12)
  clear hb12
  go_wp2_with fail
  refine (SD.out _).mono ?_
  rintro e w13 ⟨rfl, hb13⟩
  have HB13 := Lib.hid (keeps HB12.out hb13)
  clear hb13
  go_wp2_with fail
  refine (HF.out _).mono ?_
  rintro e w14 ⟨rfl, hb14⟩
  have HB14 := Lib.hid (keeps HB13.out hb14)
  clear hb14
  go_wp2_with fail
  go_ret
  exact ⟨rfl, HB14.out⟩
set_option maxRecDepth 100000 in
set_option maxHeartbeats 4000000 in
theorem made_si (hI : InodeOk) (hE : EntryOk) (hD : BlockOk) (hS : SplitOk) (hN : NameOk) (hF : FixOk) (ino n : Int) (name : ByteArray) (w : World) (h0 : 0 ≤ ino) (h1 : ino ≤ 4294967295) (h2 : -9223372036854775808 ≤ n) (h3 : n ≤ 9223372036854775807) (ha0 : 0 < name.size) (ha : name.size ≤ 32) (hn : 0 ≤ n) (hn2 : n ≤ 65535) : Calls Try.prog 3 #[.int .u32 ino, .string name, .int .i64 n] w fun e w' => e = .returned (.bool true) ∧ Below w.heap.size w w' := by
  have HF := Lib.hid hF
  have HI := Lib.hid (fun w => hI ino w h0 h1)
  have RI := Lib.hid (fun w => refI_calls ino w h0 h1)
  have HE := Lib.hid (fun w => hE ino name w h0 h1 (by omega))
  have RE := Lib.hid (fun w => refE_calls ino name w (by first | decide | (unfold maxLen; omega)) h0 h1)
  have HD := Lib.hid (fun w => hD ino n w h0 h1 h2 h3)
  have RD := Lib.hid (fun w => refD_calls ino n w h0 h1)
  have HN := Lib.hid (fun w => hN name w (by omega))
  have RN := Lib.hid (fun w => refname_calls name w (by first | decide | omega))
  have SI := Lib.hid (fun w => hS (kI ino) w (by unfold kI; rw [ks_size]; omega))
  rw [sp_I ino h0 h1] at SI
  have SE := Lib.hid (fun w => hS (kE ino name) w (kE_size _ _))
  rw [sp_E ino name h0 h1 ha0 ha] at SE
  have SD := Lib.hid (fun w => hS (kD ino n) w (kD_size _ _))
  rw [sp_D ino n h0 h1 hn hn2] at SD
  unfold SpE at SI SE SD
  generalize kI ino = sI at HI RI SI
  generalize kE ino name = sE at HE RE SE
  generalize kD ino n = sD at HD RD SD
  generalize nameOk name = bN at HN RN
  have d : decide ((3000 : Int) < (name.size : Int)) = false := by simp; omega
  have hne : ¬ name.toList = [] := by
    intro h
    have := congrArg List.length h
    rw [toList_d] at this
    have hz : name.data.toList.length = name.size := by rw [Array.length_toList]; rfl
    rw [hz] at this
    have h9 : name.size = 0 := this
    omega
  have hne2 : name.toList.isEmpty = false := by rw [List.isEmpty_eq_false_iff]; exact hne
  have hne3 : (name.toList == []) = false := by rw [beq_eq_false_iff_ne]; exact hne
  have d2 : decide ((name.size : Int) ≤ 32) = true := by simp; omega
  have d3 : decide (n < (0 : Int)) = false := by simp; omega
  have d4 : decide ((65535 : Int) < n) = false := by simp; omega
  clear hI hE hD hS hN hF
  go_enter Try.func3, Try.ntmps3
  go_wp2_with fail
  refine (HI.out _).mono ?_
  rintro e w0 ⟨rfl, hb0⟩
  have HB0 := Lib.hid hb0
  clear hb0
  go_wp2_with fail
  refine (RI.out _).mono ?_
  rintro e w1 ⟨rfl, hb1⟩
  have HB1 := Lib.hid (keeps HB0.out hb1)
  clear hb1
  go_wp2_with fail
  refine (HE.out _).mono ?_
  rintro e w2 ⟨rfl, hb2⟩
  have HB2 := Lib.hid (keeps HB1.out hb2)
  clear hb2
  go_wp2_with fail
  refine (RE.out _).mono ?_
  rintro e w3 ⟨rfl, hb3⟩
  have HB3 := Lib.hid (keeps HB2.out hb3)
  clear hb3
  go_wp2_with fail
  refine (HD.out _).mono ?_
  rintro e w4 ⟨rfl, hb4⟩
  have HB4 := Lib.hid (keeps HB3.out hb4)
  clear hb4
  go_wp2_with fail
  refine (RD.out _).mono ?_
  rintro e w5 ⟨rfl, hb5⟩
  have HB5 := Lib.hid (keeps HB4.out hb5)
  clear hb5
  go_wp2_with fail
  refine (HN.out _).mono ?_
  rintro e w6 ⟨rfl, hb6⟩
  have HB6 := Lib.hid (keeps HB5.out hb6)
  clear hb6
  go_wp2_with fail
  refine (RN.out _).mono ?_
  rintro e w' ⟨rfl, rfl⟩
  go_wp2_with fail
  refine (HI.out _).mono ?_
  rintro e w8 ⟨rfl, hb8⟩
  have HB8 := Lib.hid (keeps HB6.out hb8)
  clear hb8
  go_wp2_with fail
  refine (SI.out _).mono ?_
  rintro e w9 ⟨rfl, hb9⟩
  have HB9 := Lib.hid (keeps HB8.out hb9)
  clear hb9
  go_wp2_with fail
  refine (HE.out _).mono ?_
  rintro e w10 ⟨rfl, hb10⟩
  have HB10 := Lib.hid (keeps HB9.out hb10)
  clear hb10
  go_wp2_with fail
  refine (SE.out _).mono ?_
  rintro e w11 ⟨rfl, hb11⟩
  have HB11 := Lib.hid (keeps HB10.out hb11)
  clear hb11
  go_wp2_with fail
  refine (HD.out _).mono ?_
  rintro e w12 ⟨rfl, hb12⟩
  have HB12 := Lib.hid (keeps HB11.out hb12)
  clear hb12
  go_wp2_with fail
  refine (SD.out _).mono ?_
  rintro e w13 ⟨rfl, hb13⟩
  have HB13 := Lib.hid (keeps HB12.out hb13)
  clear hb13
  go_wp2_with fail
  refine (HF.out _).mono ?_
  rintro e w14 ⟨rfl, hb14⟩
  have HB14 := Lib.hid (keeps HB13.out hb14)
  clear hb14
  go_wp2_with fail
  go_ret
  exact ⟨rfl, HB14.out⟩
set_option maxRecDepth 100000 in
set_option maxHeartbeats 4000000 in
theorem made_ln (hI : InodeOk) (hE : EntryOk) (hD : BlockOk) (hS : SplitOk) (hN : NameOk) (hF : FixOk) (ino n : Int) (name : ByteArray) (w : World) (h0 : 0 ≤ ino) (h1 : ino ≤ 4294967295) (h2 : -9223372036854775808 ≤ n) (h3 : n ≤ 9223372036854775807) (ha : 32 < name.size) (ha2 : name.size ≤ 3000) (hn : n < 0) : Calls Try.prog 3 #[.int .u32 ino, .string name, .int .i64 n] w fun e w' => e = .returned (.bool true) ∧ Below w.heap.size w w' := by
  have HF := Lib.hid hF
  have HI := Lib.hid (fun w => hI ino w h0 h1)
  have RI := Lib.hid (fun w => refI_calls ino w h0 h1)
  have HE := Lib.hid (fun w => hE ino name w h0 h1 (by omega))
  have RE := Lib.hid (fun w => refE_calls ino name w (by first | decide | (unfold maxLen; omega)) h0 h1)
  have HD := Lib.hid (fun w => hD ino n w h0 h1 h2 h3)
  have RD := Lib.hid (fun w => refD_calls ino n w h0 h1)
  have HN := Lib.hid (fun w => hN name w (by omega))
  have RN := Lib.hid (fun w => refname_calls name w (by first | decide | omega))
  have SI := Lib.hid (fun w => hS (kI ino) w (by unfold kI; rw [ks_size]; omega))
  rw [sp_I ino h0 h1] at SI
  have SE := Lib.hid (fun w => hS (kE ino name) w (kE_size _ _))
  obtain ⟨ea, eb, ec, ed, he⟩ := sp_any (kE ino name)
  rw [he] at SE
  clear he
  have SD := Lib.hid (fun w => hS (kD ino n) w (kD_size _ _))
  obtain ⟨da, db, dc, dd, hd⟩ := sp_any (kD ino n)
  rw [hd] at SD
  clear hd
  unfold SpE at SI SE SD
  generalize kI ino = sI at HI RI SI
  generalize kE ino name = sE at HE RE SE
  generalize kD ino n = sD at HD RD SD
  generalize nameOk name = bN at HN RN
  have d : decide ((3000 : Int) < (name.size : Int)) = false := by simp; omega
  have hne : ¬ name.toList = [] := by
    intro h
    have := congrArg List.length h
    rw [toList_d] at this
    have hz : name.data.toList.length = name.size := by rw [Array.length_toList]; rfl
    rw [hz] at this
    have h9 : name.size = 0 := this
    omega
  have hne2 : name.toList.isEmpty = false := by rw [List.isEmpty_eq_false_iff]; exact hne
  have hne3 : (name.toList == []) = false := by rw [beq_eq_false_iff_ne]; exact hne
  have d2 : decide ((name.size : Int) ≤ 32) = false := by simp; omega
  have d3 : decide (n < (0 : Int)) = true := by simp; omega
  clear hI hE hD hS hN hF
  go_enter Try.func3, Try.ntmps3
  go_wp2_with fail
  refine (HI.out _).mono ?_
  rintro e w0 ⟨rfl, hb0⟩
  have HB0 := Lib.hid hb0
  clear hb0
  go_wp2_with fail
  refine (RI.out _).mono ?_
  rintro e w1 ⟨rfl, hb1⟩
  have HB1 := Lib.hid (keeps HB0.out hb1)
  clear hb1
  go_wp2_with fail
  refine (HE.out _).mono ?_
  rintro e w2 ⟨rfl, hb2⟩
  have HB2 := Lib.hid (keeps HB1.out hb2)
  clear hb2
  go_wp2_with fail
  refine (RE.out _).mono ?_
  rintro e w3 ⟨rfl, hb3⟩
  have HB3 := Lib.hid (keeps HB2.out hb3)
  clear hb3
  go_wp2_with fail
  refine (HD.out _).mono ?_
  rintro e w4 ⟨rfl, hb4⟩
  have HB4 := Lib.hid (keeps HB3.out hb4)
  clear hb4
  go_wp2_with fail
  refine (RD.out _).mono ?_
  rintro e w5 ⟨rfl, hb5⟩
  have HB5 := Lib.hid (keeps HB4.out hb5)
  clear hb5
  go_wp2_with fail
  refine (HN.out _).mono ?_
  rintro e w6 ⟨rfl, hb6⟩
  have HB6 := Lib.hid (keeps HB5.out hb6)
  clear hb6
  go_wp2_with fail
  refine (RN.out _).mono ?_
  rintro e w' ⟨rfl, rfl⟩
  go_wp2_with fail
  refine (HI.out _).mono ?_
  rintro e w8 ⟨rfl, hb8⟩
  have HB8 := Lib.hid (keeps HB6.out hb8)
  clear hb8
  go_wp2_with fail
  refine (SI.out _).mono ?_
  rintro e w9 ⟨rfl, hb9⟩
  have HB9 := Lib.hid (keeps HB8.out hb9)
  clear hb9
  go_wp2_with fail
  refine (HE.out _).mono ?_
  rintro e w10 ⟨rfl, hb10⟩
  have HB10 := Lib.hid (keeps HB9.out hb10)
  clear hb10
  go_wp2_with fail
  refine (SE.out _).mono ?_
  rintro e w11 ⟨rfl, hb11⟩
  have HB11 := Lib.hid (keeps HB10.out hb11)
  clear hb11
  go_wp2_with fail
  refine (HD.out _).mono ?_
  rintro e w12 ⟨rfl, hb12⟩
  have HB12 := Lib.hid (keeps HB11.out hb12)
  clear hb12
  go_wp2_with fail
  refine (SD.out _).mono ?_
  rintro e w13 ⟨rfl, hb13⟩
  have HB13 := Lib.hid (keeps HB12.out hb13)
  clear hb13
  go_wp2_with fail
  refine (HF.out _).mono ?_
  rintro e w14 ⟨rfl, hb14⟩
  have HB14 := Lib.hid (keeps HB13.out hb14)
  clear hb14
  go_wp2_with fail
  go_ret
  exact ⟨rfl, HB14.out⟩
set_option maxRecDepth 100000 in
set_option maxHeartbeats 4000000 in
theorem made_lg (hI : InodeOk) (hE : EntryOk) (hD : BlockOk) (hS : SplitOk) (hN : NameOk) (hF : FixOk) (ino n : Int) (name : ByteArray) (w : World) (h0 : 0 ≤ ino) (h1 : ino ≤ 4294967295) (h2 : -9223372036854775808 ≤ n) (h3 : n ≤ 9223372036854775807) (ha : 32 < name.size) (ha2 : name.size ≤ 3000) (hn : 65535 < n) : Calls Try.prog 3 #[.int .u32 ino, .string name, .int .i64 n] w fun e w' => e = .returned (.bool true) ∧ Below w.heap.size w w' := by
  have HF := Lib.hid hF
  have HI := Lib.hid (fun w => hI ino w h0 h1)
  have RI := Lib.hid (fun w => refI_calls ino w h0 h1)
  have HE := Lib.hid (fun w => hE ino name w h0 h1 (by omega))
  have RE := Lib.hid (fun w => refE_calls ino name w (by first | decide | (unfold maxLen; omega)) h0 h1)
  have HD := Lib.hid (fun w => hD ino n w h0 h1 h2 h3)
  have RD := Lib.hid (fun w => refD_calls ino n w h0 h1)
  have HN := Lib.hid (fun w => hN name w (by omega))
  have RN := Lib.hid (fun w => refname_calls name w (by first | decide | omega))
  have SI := Lib.hid (fun w => hS (kI ino) w (by unfold kI; rw [ks_size]; omega))
  rw [sp_I ino h0 h1] at SI
  have SE := Lib.hid (fun w => hS (kE ino name) w (kE_size _ _))
  obtain ⟨ea, eb, ec, ed, he⟩ := sp_any (kE ino name)
  rw [he] at SE
  clear he
  have SD := Lib.hid (fun w => hS (kD ino n) w (kD_size _ _))
  obtain ⟨da, db, dc, dd, hd⟩ := sp_any (kD ino n)
  rw [hd] at SD
  clear hd
  unfold SpE at SI SE SD
  generalize kI ino = sI at HI RI SI
  generalize kE ino name = sE at HE RE SE
  generalize kD ino n = sD at HD RD SD
  generalize nameOk name = bN at HN RN
  have d : decide ((3000 : Int) < (name.size : Int)) = false := by simp; omega
  have hne : ¬ name.toList = [] := by
    intro h
    have := congrArg List.length h
    rw [toList_d] at this
    have hz : name.data.toList.length = name.size := by rw [Array.length_toList]; rfl
    rw [hz] at this
    have h9 : name.size = 0 := this
    omega
  have hne2 : name.toList.isEmpty = false := by rw [List.isEmpty_eq_false_iff]; exact hne
  have hne3 : (name.toList == []) = false := by rw [beq_eq_false_iff_ne]; exact hne
  have d2 : decide ((name.size : Int) ≤ 32) = false := by simp; omega
  have d3 : decide (n < (0 : Int)) = false := by simp; omega
  have d4 : decide ((65535 : Int) < n) = true := by simp; omega
  clear hI hE hD hS hN hF
  go_enter Try.func3, Try.ntmps3
  go_wp2_with fail
  refine (HI.out _).mono ?_
  rintro e w0 ⟨rfl, hb0⟩
  have HB0 := Lib.hid hb0
  clear hb0
  go_wp2_with fail
  refine (RI.out _).mono ?_
  rintro e w1 ⟨rfl, hb1⟩
  have HB1 := Lib.hid (keeps HB0.out hb1)
  clear hb1
  go_wp2_with fail
  refine (HE.out _).mono ?_
  rintro e w2 ⟨rfl, hb2⟩
  have HB2 := Lib.hid (keeps HB1.out hb2)
  clear hb2
  go_wp2_with fail
  refine (RE.out _).mono ?_
  rintro e w3 ⟨rfl, hb3⟩
  have HB3 := Lib.hid (keeps HB2.out hb3)
  clear hb3
  go_wp2_with fail
  refine (HD.out _).mono ?_
  rintro e w4 ⟨rfl, hb4⟩
  have HB4 := Lib.hid (keeps HB3.out hb4)
  clear hb4
  go_wp2_with fail
  refine (RD.out _).mono ?_
  rintro e w5 ⟨rfl, hb5⟩
  have HB5 := Lib.hid (keeps HB4.out hb5)
  clear hb5
  go_wp2_with fail
  refine (HN.out _).mono ?_
  rintro e w6 ⟨rfl, hb6⟩
  have HB6 := Lib.hid (keeps HB5.out hb6)
  clear hb6
  go_wp2_with fail
  refine (RN.out _).mono ?_
  rintro e w' ⟨rfl, rfl⟩
  go_wp2_with fail
  refine (HI.out _).mono ?_
  rintro e w8 ⟨rfl, hb8⟩
  have HB8 := Lib.hid (keeps HB6.out hb8)
  clear hb8
  go_wp2_with fail
  refine (SI.out _).mono ?_
  rintro e w9 ⟨rfl, hb9⟩
  have HB9 := Lib.hid (keeps HB8.out hb9)
  clear hb9
  go_wp2_with fail
  refine (HE.out _).mono ?_
  rintro e w10 ⟨rfl, hb10⟩
  have HB10 := Lib.hid (keeps HB9.out hb10)
  clear hb10
  go_wp2_with fail
  refine (SE.out _).mono ?_
  rintro e w11 ⟨rfl, hb11⟩
  have HB11 := Lib.hid (keeps HB10.out hb11)
  clear hb11
  go_wp2_with fail
  refine (HD.out _).mono ?_
  rintro e w12 ⟨rfl, hb12⟩
  have HB12 := Lib.hid (keeps HB11.out hb12)
  clear hb12
  go_wp2_with fail
  refine (SD.out _).mono ?_
  rintro e w13 ⟨rfl, hb13⟩
  have HB13 := Lib.hid (keeps HB12.out hb13)
  clear hb13
  go_wp2_with fail
  refine (HF.out _).mono ?_
  rintro e w14 ⟨rfl, hb14⟩
  have HB14 := Lib.hid (keeps HB13.out hb14)
  clear hb14
  go_wp2_with fail
  go_ret
  exact ⟨rfl, HB14.out⟩
set_option maxRecDepth 100000 in
set_option maxHeartbeats 4000000 in
theorem made_li (hI : InodeOk) (hE : EntryOk) (hD : BlockOk) (hS : SplitOk) (hN : NameOk) (hF : FixOk) (ino n : Int) (name : ByteArray) (w : World) (h0 : 0 ≤ ino) (h1 : ino ≤ 4294967295) (h2 : -9223372036854775808 ≤ n) (h3 : n ≤ 9223372036854775807) (ha : 32 < name.size) (ha2 : name.size ≤ 3000) (hn : 0 ≤ n) (hn2 : n ≤ 65535) : Calls Try.prog 3 #[.int .u32 ino, .string name, .int .i64 n] w fun e w' => e = .returned (.bool true) ∧ Below w.heap.size w w' := by
  have HF := Lib.hid hF
  have HI := Lib.hid (fun w => hI ino w h0 h1)
  have RI := Lib.hid (fun w => refI_calls ino w h0 h1)
  have HE := Lib.hid (fun w => hE ino name w h0 h1 (by omega))
  have RE := Lib.hid (fun w => refE_calls ino name w (by first | decide | (unfold maxLen; omega)) h0 h1)
  have HD := Lib.hid (fun w => hD ino n w h0 h1 h2 h3)
  have RD := Lib.hid (fun w => refD_calls ino n w h0 h1)
  have HN := Lib.hid (fun w => hN name w (by omega))
  have RN := Lib.hid (fun w => refname_calls name w (by first | decide | omega))
  have SI := Lib.hid (fun w => hS (kI ino) w (by unfold kI; rw [ks_size]; omega))
  rw [sp_I ino h0 h1] at SI
  have SE := Lib.hid (fun w => hS (kE ino name) w (kE_size _ _))
  obtain ⟨ea, eb, ec, ed, he⟩ := sp_any (kE ino name)
  rw [he] at SE
  clear he
  have SD := Lib.hid (fun w => hS (kD ino n) w (kD_size _ _))
  rw [sp_D ino n h0 h1 hn hn2] at SD
  unfold SpE at SI SE SD
  generalize kI ino = sI at HI RI SI
  generalize kE ino name = sE at HE RE SE
  generalize kD ino n = sD at HD RD SD
  generalize nameOk name = bN at HN RN
  have d : decide ((3000 : Int) < (name.size : Int)) = false := by simp; omega
  have hne : ¬ name.toList = [] := by
    intro h
    have := congrArg List.length h
    rw [toList_d] at this
    have hz : name.data.toList.length = name.size := by rw [Array.length_toList]; rfl
    rw [hz] at this
    have h9 : name.size = 0 := this
    omega
  have hne2 : name.toList.isEmpty = false := by rw [List.isEmpty_eq_false_iff]; exact hne
  have hne3 : (name.toList == []) = false := by rw [beq_eq_false_iff_ne]; exact hne
  have d2 : decide ((name.size : Int) ≤ 32) = false := by simp; omega
  have d3 : decide (n < (0 : Int)) = false := by simp; omega
  have d4 : decide ((65535 : Int) < n) = false := by simp; omega
  clear hI hE hD hS hN hF
  go_enter Try.func3, Try.ntmps3
  go_wp2_with fail
  refine (HI.out _).mono ?_
  rintro e w0 ⟨rfl, hb0⟩
  have HB0 := Lib.hid hb0
  clear hb0
  go_wp2_with fail
  refine (RI.out _).mono ?_
  rintro e w1 ⟨rfl, hb1⟩
  have HB1 := Lib.hid (keeps HB0.out hb1)
  clear hb1
  go_wp2_with fail
  refine (HE.out _).mono ?_
  rintro e w2 ⟨rfl, hb2⟩
  have HB2 := Lib.hid (keeps HB1.out hb2)
  clear hb2
  go_wp2_with fail
  refine (RE.out _).mono ?_
  rintro e w3 ⟨rfl, hb3⟩
  have HB3 := Lib.hid (keeps HB2.out hb3)
  clear hb3
  go_wp2_with fail
  refine (HD.out _).mono ?_
  rintro e w4 ⟨rfl, hb4⟩
  have HB4 := Lib.hid (keeps HB3.out hb4)
  clear hb4
  go_wp2_with fail
  refine (RD.out _).mono ?_
  rintro e w5 ⟨rfl, hb5⟩
  have HB5 := Lib.hid (keeps HB4.out hb5)
  clear hb5
  go_wp2_with fail
  refine (HN.out _).mono ?_
  rintro e w6 ⟨rfl, hb6⟩
  have HB6 := Lib.hid (keeps HB5.out hb6)
  clear hb6
  go_wp2_with fail
  refine (RN.out _).mono ?_
  rintro e w' ⟨rfl, rfl⟩
  go_wp2_with fail
  refine (HI.out _).mono ?_
  rintro e w8 ⟨rfl, hb8⟩
  have HB8 := Lib.hid (keeps HB6.out hb8)
  clear hb8
  go_wp2_with fail
  refine (SI.out _).mono ?_
  rintro e w9 ⟨rfl, hb9⟩
  have HB9 := Lib.hid (keeps HB8.out hb9)
  clear hb9
  go_wp2_with fail
  refine (HE.out _).mono ?_
  rintro e w10 ⟨rfl, hb10⟩
  have HB10 := Lib.hid (keeps HB9.out hb10)
  clear hb10
  go_wp2_with fail
  refine (SE.out _).mono ?_
  rintro e w11 ⟨rfl, hb11⟩
  have HB11 := Lib.hid (keeps HB10.out hb11)
  clear hb11
  go_wp2_with fail
  refine (HD.out _).mono ?_
  rintro e w12 ⟨rfl, hb12⟩
  have HB12 := Lib.hid (keeps HB11.out hb12)
  clear hb12
  go_wp2_with fail
  refine (SD.out _).mono ?_
  rintro e w13 ⟨rfl, hb13⟩
  have HB13 := Lib.hid (keeps HB12.out hb13)
  clear hb13
  go_wp2_with fail
  refine (HF.out _).mono ?_
  rintro e w14 ⟨rfl, hb14⟩
  have HB14 := Lib.hid (keeps HB13.out hb14)
  clear hb14
  go_wp2_with fail
  go_ret
  exact ⟨rfl, HB14.out⟩
theorem made_law (hI : InodeOk) (hE : EntryOk) (hD : BlockOk) (hS : SplitOk) (hN : NameOk) (hF : FixOk) (ino n : Int) (name : ByteArray) (w : World) (h0 : 0 ≤ ino) (h1 : ino ≤ 4294967295) (h2 : -9223372036854775808 ≤ n) (h3 : n ≤ 9223372036854775807) (hk : name.size ≤ maxLen) : Calls Try.prog 3 #[.int .u32 ino, .string name, .int .i64 n] w fun e w' => e = .returned (.bool true) ∧ Below w.heap.size w w' := by
  unfold maxLen at hk
  by_cases hb : 3000 < name.size
  · exact made_big hF ino n name w hb hk
  rcases Nat.eq_zero_or_pos name.size with hz | hz
  · obtain rfl : name = ⟨#[]⟩ := empty_of hz
    rcases (show n < 0 ∨ 65535 < n ∨ (0 ≤ n ∧ n ≤ 65535) by omega) with hn | hn | ⟨hn, hn2⟩
    · exact made_en hI hE hD hS hN hF ino n w h0 h1 h2 h3 hn
    · exact made_eg hI hE hD hS hN hF ino n w h0 h1 h2 h3 hn
    · exact made_ei hI hE hD hS hN hF ino n w h0 h1 h2 h3 hn hn2
  by_cases hl : name.size ≤ 32
  · rcases (show n < 0 ∨ 65535 < n ∨ (0 ≤ n ∧ n ≤ 65535) by omega) with hn | hn | ⟨hn, hn2⟩
    · exact made_sn hI hE hD hS hN hF ino n name w h0 h1 h2 h3 hz hl hn
    · exact made_sg hI hE hD hS hN hF ino n name w h0 h1 h2 h3 hz hl hn
    · exact made_si hI hE hD hS hN hF ino n name w h0 h1 h2 h3 hz hl hn hn2
  · rcases (show n < 0 ∨ 65535 < n ∨ (0 ≤ n ∧ n ≤ 65535) by omega) with hn | hn | ⟨hn, hn2⟩
    · exact made_ln hI hE hD hS hN hF ino n name w h0 h1 h2 h3 (by omega) (by omega) hn
    · exact made_lg hI hE hD hS hN hF ino n name w h0 h1 h2 h3 (by omega) (by omega) hn
    · exact made_li hI hE hD hS hN hF ino n name w h0 h1 h2 h3 (by omega) (by omega) hn hn2
end Go.Proofs.Ytipiibjghmafjaa.KeysK
