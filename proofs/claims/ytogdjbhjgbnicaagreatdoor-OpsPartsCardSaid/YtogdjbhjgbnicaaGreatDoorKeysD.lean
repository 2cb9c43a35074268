import Derived.Test.YtogdjbhjgbnicaaGreatDoorSq
import Derived.Test.YtogdjbhjgbnicaaGreatDoorKeysB
import Derived.Test.YtogdjbhjgbnicaaGreatDoorPackG
set_option maxHeartbeats 16000000
set_option linter.unusedVariables false
set_option linter.unusedSimpArgs false
set_option maxRecDepth 100000
namespace Go.Proofs.YtogdjbhjgbnicaaGreatDoor.KeysD
open Go.RowKit
open Byte PackM PackV PackG ConvS KeysM KeysR KeysS KeysL KeysV KeysC KeysB Still
theorem split_out (key : ByteArray) (w : World) (h : key.size < 5 ∨ 37 < key.size) (hk : key.size ≤ 100000) : Calls Tryz.prog 132 #[.string key] w (SpE (sp key) w) := by
 have hs : (key.size : Int) ≤ 9223372036854775807 := by omega
 have e : sp key = ⟨0,0,E0,0⟩ := by
  rcases h with h | h
  ·exact sp_short h
  ·exact sp_none (by omega) (by omega) (by omega)
 rw [e]
 rcases h with h | h
 ·have d : decide ((key.size : Int) < 5) = true := by simp; omega
  clear h e
  go_enter Tryz.func132,Tryz.ntmps132
  go_wp2_with fail
  refine bodyPost_ret (results_tmp4 rfl _ _ _) rfl ?_
  exact ⟨rfl,Below.refl _ _⟩
 ·have d : decide ((key.size : Int) < 5) = false := by simp; omega
  have d2 : decide ((37 : Int) < (key.size : Int)) = true := by simp; omega
  clear h e
  go_enter Tryz.func132,Tryz.ntmps132
  go_wp2_with fail
  refine bodyPost_ret (results_tmp4 rfl _ _ _) rfl ?_
  exact ⟨rfl,Below.refl _ _⟩
structure Fr (key : ByteArray) (w w1 : World) (n cap : Nat) (N y : Int) : Prop where
 size : key.size = n
 lo : 5 ≤ n
 hi : n ≤ 37
 fit : n ≤ cap
 run : (convert 9 39 (.string key)).run Tryz.prog w = .ok (.slice (some ⟨w.heap.size,0,none⟩) n cap) w1
 get : Calls Tryz.prog 157 #[.slice (some ⟨w.heap.size,0,none⟩) n cap,.int .i64 1,.int .i64 4] w1 fun e w' => e = .returned (.tuple #[.int .u64 N,.int .i64 5,.int .i64 0]) ∧ w1 = w'
 below : Below w.heap.size w w1
 bs : Bs w1 (some ⟨w.heap.size,0,none⟩) n (txt key)
 num : getn (txt key) 1 4 = N
 first : (txt key).getD 0 0 = y
theorem fr_of (key : ByteArray) (w : World) (n : Nat) (hn : key.size = n) (h : 5 ≤ n) (h' : n ≤ 37) : ∃ w1 cap,Fr key w w1 n cap (getn (txt key) 1 4) ((txt key).getD 0 0) := by
 obtain ⟨cap,w1,hrun,hf,hb1⟩ := conv_key w key
 have hgo := g_ok (txt key) 1 4 (by have := txt_len key; omega) (by have := txt_len key; rw [show width 4 = 4 from rfl]; omega)
 have hget := get_calls (some ⟨w.heap.size,0,none⟩) n cap (txt key) 1 4 w1 (by rw [← hn]; exact hf.bs) (by omega) (by omega) (by omega) (by omega) (by omega)
 rw [hgo.1,hgo.2.1,hgo.2.2] at hget
 rw [hn] at hrun
 exact ⟨w1,cap,hn,h,h',by rw [← hn]; exact hf.fit,hrun,hget,hb1,by rw [← hn]; exact hf.bs,rfl,rfl⟩
theorem rest_txt {key : ByteArray} {n : Nat} (hn : key.size = n) : str (((txt key).drop 5).take (n - 5)) = key.extract 5 n := by
 subst hn
 apply txt_inj
 rw [txt_str _ (fun x hx => txt_bd key x (List.mem_of_mem_drop (List.mem_of_mem_take hx))),txt_drop,List.take_of_length_le]
 rw [List.length_drop,txt_len]
 omega
theorem two_bytes {key : ByteArray} (hn : key.size = 7) : getn ((txt key).drop 5) 0 2 = 256 * (txt key).getD 5 0 + (txt key).getD 6 0 := by
 have hl : ((txt key).drop 5).length = 2 := by rw [List.length_drop,txt_len]; omega
 have g5 : (txt key).getD 5 0 = ((txt key).drop 5).getD 0 0 := by simp [List.getD_eq_getElem?_getD]
 have g6 : (txt key).getD 6 0 = ((txt key).drop 5).getD 1 0 := by simp [List.getD_eq_getElem?_getD]
 rw [g5,g6]
 generalize (txt key).drop 5 = r at hl
 match r,hl with
 | [p,q],_ =>
   simp [getn,unbe]
   omega
theorem split_i5a (key : ByteArray) (w w1 : World) (n cap : Nat) (N y : Int) (hf : Fr key w w1 n cap N y) (hy : y = 73) (hn : n = 5) (hc : cap = 5) : Calls Tryz.prog 132 #[.string key] w (SpE ⟨73,N,E0,0⟩ w) := by
 have hs : (n : Int) ≤ 9223372036854775807 := by have := hf.hi; omega
 have hNb : 0 ≤ N ∧ N ≤ 4294967295 := by rw [← hf.num]; exact getn_bd key
 have hN0 := hNb.1
 have hN1 := hNb.2
 have r1 : IntKind.u32.wrap N = N := by rw [IntKind.wrap_u32]; omega
 have hrun := hf.run
 have HF := hQ_ hf
 have hsz := hf.size
 have hc0 := hf.bs.at_ 0 (by have := hf.lo; omega)
 rw [hf.first,Nat.zero_add] at hc0
 have hlo := hf.lo
 have hhi := hf.hi
 have hcap := hf.fit
 subst hy
 subst hn
 subst hc
 have d : decide ((5 : Int) < 5) = false := by simp
 have d2 : decide ((37 : Int) < (5 : Int)) = false := by simp
 clear hf hNb
 go_enter Tryz.func132,Tryz.ntmps132
 go_wp2_with (first
  | ((with_reducible refine pick (some 25) ?_); refine wpList_conv rfl 9 39 _ rfl (.string key) (.slice (some ⟨w.heap.size,0,none⟩) 5 5) rfl hrun ?_)
  | (go_at_call 157; (with_reducible refine HF.out.get.mono ?_); rintro e w2 ⟨rfl,rfl⟩))
 refine bodyPost_ret (results_tmp4 rfl _ _ _) rfl ?_
 exact ⟨rfl,HF.out.below⟩
theorem split_i5b (key : ByteArray) (w w1 : World) (n cap : Nat) (N y : Int) (hf : Fr key w w1 n cap N y) (hy : y = 73) (hn : n = 5) (hc : cap ≠ 5) : Calls Tryz.prog 132 #[.string key] w (SpE ⟨73,N,E0,0⟩ w) := by
 have hs : (n : Int) ≤ 9223372036854775807 := by have := hf.hi; omega
 have hNb : 0 ≤ N ∧ N ≤ 4294967295 := by rw [← hf.num]; exact getn_bd key
 have hN0 := hNb.1
 have hN1 := hNb.2
 have r1 : IntKind.u32.wrap N = N := by rw [IntKind.wrap_u32]; omega
 have hrun := hf.run
 have HF := hQ_ hf
 have hsz := hf.size
 have hc0 := hf.bs.at_ 0 (by have := hf.lo; omega)
 rw [hf.first,Nat.zero_add] at hc0
 have hlo := hf.lo
 have hhi := hf.hi
 have hcap := hf.fit
 subst hy
 subst hn
 have d : decide ((5 : Int) < 5) = false := by simp
 have d2 : decide ((37 : Int) < (5 : Int)) = false := by simp
 clear hf hNb
 go_enter Tryz.func132,Tryz.ntmps132
 go_wp2_with (first
  | ((with_reducible refine pick (some 25) ?_); refine wpList_conv rfl 9 39 _ rfl (.string key) (.slice (some ⟨w.heap.size,0,none⟩) 5 cap) rfl hrun ?_)
  | (go_at_call 157; (with_reducible refine HF.out.get.mono ?_); rintro e w2 ⟨rfl,rfl⟩))
 refine bodyPost_ret (results_tmp4 rfl _ _ _) rfl ?_
 exact ⟨rfl,HF.out.below⟩
theorem split_i6 (key : ByteArray) (w w1 : World) (n cap : Nat) (N y : Int) (hf : Fr key w w1 n cap N y) (hy : y = 73) (hn : 5 < n) : Calls Tryz.prog 132 #[.string key] w (SpE ⟨0,0,E0,0⟩ w) := by
 have hs : (n : Int) ≤ 9223372036854775807 := by have := hf.hi; omega
 have hNb : 0 ≤ N ∧ N ≤ 4294967295 := by rw [← hf.num]; exact getn_bd key
 have hN0 := hNb.1
 have hN1 := hNb.2
 have r1 : IntKind.u32.wrap N = N := by rw [IntKind.wrap_u32]; omega
 have hrun := hf.run
 have HF := hQ_ hf
 have hsz := hf.size
 have hc0 := hf.bs.at_ 0 (by have := hf.lo; omega)
 rw [hf.first,Nat.zero_add] at hc0
 have hlo := hf.lo
 have hhi := hf.hi
 have hcap := hf.fit
 subst hy
 have hc5 : ¬ cap = 5 := by omega
 have z0 : (((n - 5 : Nat) : Int) == 0) = false := by rw [beq_eq_false_iff_ne]; omega
 have z1 : decide (0 < n - 5) = true := by simp; omega
 have d : decide ((n : Int) < 5) = false := by simp; omega
 have d2 : decide ((37 : Int) < (n : Int)) = false := by simp; omega
 clear hf hNb
 go_enter Tryz.func132,Tryz.ntmps132
 go_wp2_with (first
  | ((with_reducible refine pick (some 25) ?_); refine wpList_conv rfl 9 39 _ rfl (.string key) (.slice (some ⟨w.heap.size,0,none⟩) n cap) rfl hrun ?_)
  | (go_at_call 157; (with_reducible refine HF.out.get.mono ?_); rintro e w2 ⟨rfl,rfl⟩))
 refine bodyPost_ret (results_tmp4 rfl _ _ _) rfl ?_
 exact ⟨rfl,HF.out.below⟩
theorem split_e5a (key : ByteArray) (w w1 : World) (n cap : Nat) (N y : Int) (hf : Fr key w w1 n cap N y) (hy : y = 69) (hn : n = 5) (hc : cap = 5) : Calls Tryz.prog 132 #[.string key] w (SpE ⟨0,0,E0,0⟩ w) := by
 have hs : (n : Int) ≤ 9223372036854775807 := by have := hf.hi; omega
 have hNb : 0 ≤ N ∧ N ≤ 4294967295 := by rw [← hf.num]; exact getn_bd key
 have hN0 := hNb.1
 have hN1 := hNb.2
 have r1 : IntKind.u32.wrap N = N := by rw [IntKind.wrap_u32]; omega
 have hrun := hf.run
 have HF := hQ_ hf
 have hsz := hf.size
 have hc0 := hf.bs.at_ 0 (by have := hf.lo; omega)
 rw [hf.first,Nat.zero_add] at hc0
 have hlo := hf.lo
 have hhi := hf.hi
 have hcap := hf.fit
 subst hy
 subst hn
 subst hc
 have d : decide ((5 : Int) < 5) = false := by simp
 have d2 : decide ((37 : Int) < (5 : Int)) = false := by simp
 clear hf hNb
 go_enter Tryz.func132,Tryz.ntmps132
 go_wp2_with (first
  | ((with_reducible refine pick (some 25) ?_); refine wpList_conv rfl 9 39 _ rfl (.string key) (.slice (some ⟨w.heap.size,0,none⟩) 5 5) rfl hrun ?_)
  | (go_at_call 157; (with_reducible refine HF.out.get.mono ?_); rintro e w2 ⟨rfl,rfl⟩))
 refine bodyPost_ret (results_tmp4 rfl _ _ _) rfl ?_
 exact ⟨rfl,HF.out.below⟩
theorem split_e5b (key : ByteArray) (w w1 : World) (n cap : Nat) (N y : Int) (hf : Fr key w w1 n cap N y) (hy : y = 69) (hn : n = 5) (hc : cap ≠ 5) : Calls Tryz.prog 132 #[.string key] w (SpE ⟨0,0,E0,0⟩ w) := by
 have hs : (n : Int) ≤ 9223372036854775807 := by have := hf.hi; omega
 have hNb : 0 ≤ N ∧ N ≤ 4294967295 := by rw [← hf.num]; exact getn_bd key
 have hN0 := hNb.1
 have hN1 := hNb.2
 have r1 : IntKind.u32.wrap N = N := by rw [IntKind.wrap_u32]; omega
 have hrun := hf.run
 have HF := hQ_ hf
 have hsz := hf.size
 have hc0 := hf.bs.at_ 0 (by have := hf.lo; omega)
 rw [hf.first,Nat.zero_add] at hc0
 have hlo := hf.lo
 have hhi := hf.hi
 have hcap := hf.fit
 subst hy
 subst hn
 have d : decide ((5 : Int) < 5) = false := by simp
 have d2 : decide ((37 : Int) < (5 : Int)) = false := by simp
 clear hf hNb
 go_enter Tryz.func132,Tryz.ntmps132
 go_wp2_with (first
  | ((with_reducible refine pick (some 25) ?_); refine wpList_conv rfl 9 39 _ rfl (.string key) (.slice (some ⟨w.heap.size,0,none⟩) 5 cap) rfl hrun ?_)
  | (go_at_call 157; (with_reducible refine HF.out.get.mono ?_); rintro e w2 ⟨rfl,rfl⟩))
 refine bodyPost_ret (results_tmp4 rfl _ _ _) rfl ?_
 exact ⟨rfl,HF.out.below⟩
theorem split_e6 (key : ByteArray) (w w1 : World) (n cap : Nat) (N y : Int) (hf : Fr key w w1 n cap N y) (hy : y = 69) (hn : 5 < n) : Calls Tryz.prog 132 #[.string key] w (SpE ⟨69,N,key.extract 5 n,0⟩ w) := by
 have hs : (n : Int) ≤ 9223372036854775807 := by have := hf.hi; omega
 have hNb : 0 ≤ N ∧ N ≤ 4294967295 := by rw [← hf.num]; exact getn_bd key
 have hN0 := hNb.1
 have hN1 := hNb.2
 have r1 : IntKind.u32.wrap N = N := by rw [IntKind.wrap_u32]; omega
 have hrun := hf.run
 have HF := hQ_ hf
 have hsz := hf.size
 have hc0 := hf.bs.at_ 0 (by have := hf.lo; omega)
 rw [hf.first,Nat.zero_add] at hc0
 have hlo := hf.lo
 have hhi := hf.hi
 have hcap := hf.fit
 subst hy
 have hc5 : ¬ cap = 5 := by omega
 have z0 : (((n - 5 : Nat) : Int) == 0) = false := by rw [beq_eq_false_iff_ne]; omega
 have z1 : decide (0 < n - 5) = true := by simp; omega
 have hb := (hf.bs.sub 5 (n - 5) (by omega)).below ((Below.refl _ _).drew)
 have hcv := hb.str_ (P := Tryz.prog) (c := cap - 5) 39 9 Tryz.underlying39 Tryz.underlying5 Tryz.underlying9
 rw [rest_txt hf.size,Nat.zero_add] at hcv
 have HBD := hQ_ (hf.below.drew)
 clear hb
 have d : decide ((n : Int) < 5) = false := by simp; omega
 have d2 : decide ((37 : Int) < (n : Int)) = false := by simp; omega
 clear hf hNb
 go_enter Tryz.func132,Tryz.ntmps132
 go_wp2_with (first
  | ((with_reducible refine pick (some 25) ?_); refine wpList_conv rfl 9 39 _ rfl (.string key) (.slice (some ⟨w.heap.size,0,none⟩) n cap) rfl hrun ?_)
  | (go_at_call 157; (with_reducible refine HF.out.get.mono ?_); rintro e w2 ⟨rfl,rfl⟩))
 refine lit_drew (by kernel_rfl) (by kernel_rfl) ?_
 refine still_val (.int .u8 69) (by kernel_rfl) (by kernel_rfl) ?_
 refine still_val (.int .u32 N) (by kernel_rfl) (by kernel_rfl) ?_
 refine still_val (.slice (some ⟨w.heap.size,5,none⟩) (n - 5) (cap - 5)) (by kernel_rfl) (by kernel_rfl) ?_
 refine still_val (.string (key.extract 5 n)) (by kernel_rfl) (still_conv (u := .slice (some ⟨w.heap.size,5,none⟩) (n - 5) (cap - 5)) rfl (by kernel_rfl) hcv) ?_
 refine still_val (.int .u8 69) (by kernel_rfl) (by kernel_rfl) ?_
 refine still_val (.int .u32 N) (by kernel_rfl) (by kernel_rfl) ?_
 refine still_val (.string (key.extract 5 n)) (by kernel_rfl) (by kernel_rfl) ?_
 refine still_val (.int .i64 0) (by kernel_rfl) (by kernel_rfl) ?_
 refine still_end ?_
 simp only [pZ_]
 go_wp2_with fail
 refine bodyPost_ret (results_tmp4 rfl _ _ _) rfl ?_
 exact ⟨rfl,HBD.out⟩
theorem split_d5a (key : ByteArray) (w w1 : World) (n cap : Nat) (N y : Int) (hf : Fr key w w1 n cap N y) (hy : y = 68) (hn : n = 5) (hc : cap = 5) : Calls Tryz.prog 132 #[.string key] w (SpE ⟨0,0,E0,0⟩ w) := by
 have hs : (n : Int) ≤ 9223372036854775807 := by have := hf.hi; omega
 have hNb : 0 ≤ N ∧ N ≤ 4294967295 := by rw [← hf.num]; exact getn_bd key
 have hN0 := hNb.1
 have hN1 := hNb.2
 have r1 : IntKind.u32.wrap N = N := by rw [IntKind.wrap_u32]; omega
 have hrun := hf.run
 have HF := hQ_ hf
 have hsz := hf.size
 have hc0 := hf.bs.at_ 0 (by have := hf.lo; omega)
 rw [hf.first,Nat.zero_add] at hc0
 have hlo := hf.lo
 have hhi := hf.hi
 have hcap := hf.fit
 subst hy
 subst hn
 subst hc
 have d : decide ((5 : Int) < 5) = false := by simp
 have d2 : decide ((37 : Int) < (5 : Int)) = false := by simp
 clear hf hNb
 go_enter Tryz.func132,Tryz.ntmps132
 go_wp2_with (first
  | ((with_reducible refine pick (some 25) ?_); refine wpList_conv rfl 9 39 _ rfl (.string key) (.slice (some ⟨w.heap.size,0,none⟩) 5 5) rfl hrun ?_)
  | (go_at_call 157; (with_reducible refine HF.out.get.mono ?_); rintro e w2 ⟨rfl,rfl⟩))
 refine bodyPost_ret (results_tmp4 rfl _ _ _) rfl ?_
 exact ⟨rfl,HF.out.below⟩
theorem split_d5b (key : ByteArray) (w w1 : World) (n cap : Nat) (N y : Int) (hf : Fr key w w1 n cap N y) (hy : y = 68) (hn : n = 5) (hc : cap ≠ 5) : Calls Tryz.prog 132 #[.string key] w (SpE ⟨0,0,E0,0⟩ w) := by
 have hs : (n : Int) ≤ 9223372036854775807 := by have := hf.hi; omega
 have hNb : 0 ≤ N ∧ N ≤ 4294967295 := by rw [← hf.num]; exact getn_bd key
 have hN0 := hNb.1
 have hN1 := hNb.2
 have r1 : IntKind.u32.wrap N = N := by rw [IntKind.wrap_u32]; omega
 have hrun := hf.run
 have HF := hQ_ hf
 have hsz := hf.size
 have hc0 := hf.bs.at_ 0 (by have := hf.lo; omega)
 rw [hf.first,Nat.zero_add] at hc0
 have hlo := hf.lo
 have hhi := hf.hi
 have hcap := hf.fit
 subst hy
 subst hn
 have d : decide ((5 : Int) < 5) = false := by simp
 have d2 : decide ((37 : Int) < (5 : Int)) = false := by simp
 clear hf hNb
 go_enter Tryz.func132,Tryz.ntmps132
 go_wp2_with (first
  | ((with_reducible refine pick (some 25) ?_); refine wpList_conv rfl 9 39 _ rfl (.string key) (.slice (some ⟨w.heap.size,0,none⟩) 5 cap) rfl hrun ?_)
  | (go_at_call 157; (with_reducible refine HF.out.get.mono ?_); rintro e w2 ⟨rfl,rfl⟩))
 refine bodyPost_ret (results_tmp4 rfl _ _ _) rfl ?_
 exact ⟨rfl,HF.out.below⟩
theorem split_d6 (key : ByteArray) (w w1 : World) (n cap : Nat) (N y : Int) (hf : Fr key w w1 n cap N y) (hy : y = 68) (hn : 5 < n) (h7 : n ≠ 7) : Calls Tryz.prog 132 #[.string key] w (SpE ⟨0,0,E0,0⟩ w) := by
 have hs : (n : Int) ≤ 9223372036854775807 := by have := hf.hi; omega
 have hNb : 0 ≤ N ∧ N ≤ 4294967295 := by rw [← hf.num]; exact getn_bd key
 have hN0 := hNb.1
 have hN1 := hNb.2
 have r1 : IntKind.u32.wrap N = N := by rw [IntKind.wrap_u32]; omega
 have hrun := hf.run
 have HF := hQ_ hf
 have hsz := hf.size
 have hc0 := hf.bs.at_ 0 (by have := hf.lo; omega)
 rw [hf.first,Nat.zero_add] at hc0
 have hlo := hf.lo
 have hhi := hf.hi
 have hcap := hf.fit
 subst hy
 have hc5 : ¬ cap = 5 := by omega
 have z0 : (((n - 5 : Nat) : Int) == 0) = false := by rw [beq_eq_false_iff_ne]; omega
 have z1 : decide (0 < n - 5) = true := by simp; omega
 have z2 : (((n - 5 : Nat) : Int) == 2) = false := by rw [beq_eq_false_iff_ne]; omega
 have d : decide ((n : Int) < 5) = false := by simp; omega
 have d2 : decide ((37 : Int) < (n : Int)) = false := by simp; omega
 clear hf hNb
 go_enter Tryz.func132,Tryz.ntmps132
 go_wp2_with (first
  | ((with_reducible refine pick (some 25) ?_); refine wpList_conv rfl 9 39 _ rfl (.string key) (.slice (some ⟨w.heap.size,0,none⟩) n cap) rfl hrun ?_)
  | (go_at_call 157; (with_reducible refine HF.out.get.mono ?_); rintro e w2 ⟨rfl,rfl⟩))
 refine bodyPost_ret (results_tmp4 rfl _ _ _) rfl ?_
 exact ⟨rfl,HF.out.below⟩
theorem split_d7 (key : ByteArray) (w w1 : World) (n cap : Nat) (N y : Int) (hf : Fr key w w1 n cap N y) (hy : y = 68) (h7 : n = 7) : Calls Tryz.prog 132 #[.string key] w (SpE ⟨68,N,E0,256 * (txt key).getD 5 0 + (txt key).getD 6 0⟩ w) := by
 have hs : (n : Int) ≤ 9223372036854775807 := by have := hf.hi; omega
 have hNb : 0 ≤ N ∧ N ≤ 4294967295 := by rw [← hf.num]; exact getn_bd key
 have hN0 := hNb.1
 have hN1 := hNb.2
 have r1 : IntKind.u32.wrap N = N := by rw [IntKind.wrap_u32]; omega
 have hrun := hf.run
 have HF := hQ_ hf
 have hsz := hf.size
 have hc0 := hf.bs.at_ 0 (by have := hf.lo; omega)
 rw [hf.first,Nat.zero_add] at hc0
 have hlo := hf.lo
 have hhi := hf.hi
 have hcap := hf.fit
 subst hy
 subst h7
 have hc5 : ¬ cap = 5 := by omega
 have hb := hf.bs.sub 5 2 (by omega)
 have hl2 : ((txt key).drop 5).length = 2 := by rw [List.length_drop,txt_len]; omega
 rw [List.take_of_length_le (by omega),Nat.zero_add] at hb
 have hgo := g_ok ((txt key).drop 5) 0 2 (by omega) (by rw [show width 2 = 2 from rfl]; omega)
 have hget := get_calls (some ⟨w.heap.size,5,none⟩) 2 (cap - 5) ((txt key).drop 5) 0 2 w1 hb (by omega) (by omega) (by omega) (by omega) (by omega)
 rw [hgo.1,hgo.2.1,hgo.2.2] at hget
 have e2 : getn ((txt key).drop 5) (Int.toNat 0) (width 2) = 256 * (txt key).getD 5 0 + (txt key).getD 6 0 := two_bytes hf.size
 have hbb : 0 ≤ 256 * (txt key).getD 5 0 + (txt key).getD 6 0 ∧ 256 * (txt key).getD 5 0 + (txt key).getD 6 0 ≤ 65535 := by
  have a := hf.bs.bd 5
  have b := hf.bs.bd 6
  omega
 rw [e2] at hget
 have HG2 := hQ_ hget
 generalize 256 * (txt key).getD 5 0 + (txt key).getD 6 0 = M at HG2 hbb ⊢
 have hb0 := hbb.1
 have hb1 := hbb.2
 have r2 : IntKind.i64.wrap M = M := by rw [IntKind.wrap_i64]; omega
 clear hb hl2 hgo hget e2 hbb
 have d : decide ((7 : Int) < 5) = false := by simp
 have d2 : decide ((37 : Int) < (7 : Int)) = false := by simp
 clear hf hNb
 go_enter Tryz.func132,Tryz.ntmps132
 go_wp2_with (first
  | ((with_reducible refine pick (some 25) ?_); refine wpList_conv rfl 9 39 _ rfl (.string key) (.slice (some ⟨w.heap.size,0,none⟩) 7 cap) rfl hrun ?_)
  | (go_at_call 157; (with_reducible refine HF.out.get.mono ?_); rintro e w2 ⟨rfl,rfl⟩)
  | (go_at_call 157; (with_reducible refine HG2.out.mono ?_); rintro e w2 ⟨rfl,rfl⟩))
 refine bodyPost_ret (results_tmp4 rfl _ _ _) rfl ?_
 exact ⟨rfl,HF.out.below⟩
theorem split_o5a (key : ByteArray) (w w1 : World) (n cap : Nat) (N y : Int) (hf : Fr key w w1 n cap N y) (hy : y ≠ 73 ∧ y ≠ 69 ∧ y ≠ 68) (hn : n = 5) (hc : cap = 5) : Calls Tryz.prog 132 #[.string key] w (SpE ⟨0,0,E0,0⟩ w) := by
 have hs : (n : Int) ≤ 9223372036854775807 := by have := hf.hi; omega
 have hNb : 0 ≤ N ∧ N ≤ 4294967295 := by rw [← hf.num]; exact getn_bd key
 have hN0 := hNb.1
 have hN1 := hNb.2
 have r1 : IntKind.u32.wrap N = N := by rw [IntKind.wrap_u32]; omega
 have hrun := hf.run
 have HF := hQ_ hf
 have hsz := hf.size
 have hc0 := hf.bs.at_ 0 (by have := hf.lo; omega)
 rw [hf.first,Nat.zero_add] at hc0
 have hlo := hf.lo
 have hhi := hf.hi
 have hcap := hf.fit
 have t1 : (y == 73) = false := by rw [beq_eq_false_iff_ne]; omega
 have t2 : (y == 69) = false := by rw [beq_eq_false_iff_ne]; omega
 have t3 : (y == 68) = false := by rw [beq_eq_false_iff_ne]; omega
 subst hn
 subst hc
 have d : decide ((5 : Int) < 5) = false := by simp
 have d2 : decide ((37 : Int) < (5 : Int)) = false := by simp
 clear hf hNb
 go_enter Tryz.func132,Tryz.ntmps132
 go_wp2_with (first
  | ((with_reducible refine pick (some 25) ?_); refine wpList_conv rfl 9 39 _ rfl (.string key) (.slice (some ⟨w.heap.size,0,none⟩) 5 5) rfl hrun ?_)
  | (go_at_call 157; (with_reducible refine HF.out.get.mono ?_); rintro e w2 ⟨rfl,rfl⟩))
 refine bodyPost_ret (results_tmp4 rfl _ _ _) rfl ?_
 exact ⟨rfl,HF.out.below⟩
theorem split_o5b (key : ByteArray) (w w1 : World) (n cap : Nat) (N y : Int) (hf : Fr key w w1 n cap N y) (hy : y ≠ 73 ∧ y ≠ 69 ∧ y ≠ 68) (hn : n = 5) (hc : cap ≠ 5) : Calls Tryz.prog 132 #[.string key] w (SpE ⟨0,0,E0,0⟩ w) := by
 have hs : (n : Int) ≤ 9223372036854775807 := by have := hf.hi; omega
 have hNb : 0 ≤ N ∧ N ≤ 4294967295 := by rw [← hf.num]; exact getn_bd key
 have hN0 := hNb.1
 have hN1 := hNb.2
 have r1 : IntKind.u32.wrap N = N := by rw [IntKind.wrap_u32]; omega
 have hrun := hf.run
 have HF := hQ_ hf
 have hsz := hf.size
 have hc0 := hf.bs.at_ 0 (by have := hf.lo; omega)
 rw [hf.first,Nat.zero_add] at hc0
 have hlo := hf.lo
 have hhi := hf.hi
 have hcap := hf.fit
 have t1 : (y == 73) = false := by rw [beq_eq_false_iff_ne]; omega
 have t2 : (y == 69) = false := by rw [beq_eq_false_iff_ne]; omega
 have t3 : (y == 68) = false := by rw [beq_eq_false_iff_ne]; omega
 subst hn
 have d : decide ((5 : Int) < 5) = false := by simp
 have d2 : decide ((37 : Int) < (5 : Int)) = false := by simp
 clear hf hNb
 go_enter Tryz.func132,Tryz.ntmps132
 go_wp2_with (first
  | ((with_reducible refine pick (some 25) ?_); refine wpList_conv rfl 9 39 _ rfl (.string key) (.slice (some ⟨w.heap.size,0,none⟩) 5 cap) rfl hrun ?_)
  | (go_at_call 157; (with_reducible refine HF.out.get.mono ?_); rintro e w2 ⟨rfl,rfl⟩))
 refine bodyPost_ret (results_tmp4 rfl _ _ _) rfl ?_
 exact ⟨rfl,HF.out.below⟩
theorem split_o6 (key : ByteArray) (w w1 : World) (n cap : Nat) (N y : Int) (hf : Fr key w w1 n cap N y) (hy : y ≠ 73 ∧ y ≠ 69 ∧ y ≠ 68) (hn : 5 < n) : Calls Tryz.prog 132 #[.string key] w (SpE ⟨0,0,E0,0⟩ w) := by
 have hs : (n : Int) ≤ 9223372036854775807 := by have := hf.hi; omega
 have hNb : 0 ≤ N ∧ N ≤ 4294967295 := by rw [← hf.num]; exact getn_bd key
 have hN0 := hNb.1
 have hN1 := hNb.2
 have r1 : IntKind.u32.wrap N = N := by rw [IntKind.wrap_u32]; omega
 have hrun := hf.run
 have HF := hQ_ hf
 have hsz := hf.size
 have hc0 := hf.bs.at_ 0 (by have := hf.lo; omega)
 rw [hf.first,Nat.zero_add] at hc0
 have hlo := hf.lo
 have hhi := hf.hi
 have hcap := hf.fit
 have t1 : (y == 73) = false := by rw [beq_eq_false_iff_ne]; omega
 have t2 : (y == 69) = false := by rw [beq_eq_false_iff_ne]; omega
 have t3 : (y == 68) = false := by rw [beq_eq_false_iff_ne]; omega
 have hc5 : ¬ cap = 5 := by omega
 have z0 : (((n - 5 : Nat) : Int) == 0) = false := by rw [beq_eq_false_iff_ne]; omega
 have z1 : decide (0 < n - 5) = true := by simp; omega
 have d : decide ((n : Int) < 5) = false := by simp; omega
 have d2 : decide ((37 : Int) < (n : Int)) = false := by simp; omega
 clear hf hNb
 go_enter Tryz.func132,Tryz.ntmps132
 go_wp2_with (first
  | ((with_reducible refine pick (some 25) ?_); refine wpList_conv rfl 9 39 _ rfl (.string key) (.slice (some ⟨w.heap.size,0,none⟩) n cap) rfl hrun ?_)
  | (go_at_call 157; (with_reducible refine HF.out.get.mono ?_); rintro e w2 ⟨rfl,rfl⟩))
 refine bodyPost_ret (results_tmp4 rfl _ _ _) rfl ?_
 exact ⟨rfl,HF.out.below⟩
theorem split_calls : SplitOk := by
 intro key w hk
 by_cases hr : key.size < 5 ∨ 37 < key.size
 ·exact split_out key w hr hk
 obtain ⟨n,hn⟩ : ∃ n,key.size = n := ⟨_,rfl⟩
 obtain ⟨w1,cap,hf⟩ := fr_of key w n hn (by omega) (by omega)
 have hlo := hf.lo
 have hhi := hf.hi
 have hcap := hf.fit
 have hfirst := hf.first
 have hsz := hf.size
 by_cases h3 : (txt key).getD 0 0 = 73
 ·by_cases h5 : n = 5
  ·rw [sp_73 h3 (by omega)]
   by_cases hc : cap = 5
   ·exact split_i5a key w w1 n cap _ _ hf h3 h5 hc
   ·exact split_i5b key w w1 n cap _ _ hf h3 h5 hc
  ·rw [sp_none (by omega) (by omega) (by omega)]
   exact split_i6 key w w1 n cap _ _ hf h3 (by omega)
 by_cases h9 : (txt key).getD 0 0 = 69
 ·by_cases h5 : n = 5
  ·rw [sp_none (by omega) (by omega) (by omega)]
   by_cases hc : cap = 5
   ·exact split_e5a key w w1 n cap _ _ hf h9 h5 hc
   ·exact split_e5b key w w1 n cap _ _ hf h9 h5 hc
  ·rw [sp_69 h9 (by omega) (by omega),hn]
   exact split_e6 key w w1 n cap _ _ hf h9 (by omega)
 by_cases h8 : (txt key).getD 0 0 = 68
 ·by_cases h5 : n = 5
  ·rw [sp_none (by omega) (by omega) (by omega)]
   by_cases hc : cap = 5
   ·exact split_d5a key w w1 n cap _ _ hf h8 h5 hc
   ·exact split_d5b key w w1 n cap _ _ hf h8 h5 hc
  ·by_cases h7 : n = 7
   ·rw [sp_68 h8 (by omega)]
    exact split_d7 key w w1 n cap _ _ hf h8 h7
   ·rw [sp_none (by omega) (by omega) (by omega)]
    exact split_d6 key w w1 n cap _ _ hf h8 (by omega) h7
 rw [sp_none (by omega) (by omega) (by omega)]
 by_cases h5 : n = 5
 ·by_cases hc : cap = 5
  ·exact split_o5a key w w1 n cap _ _ hf ⟨h3,h9,h8⟩ h5 hc
  ·exact split_o5b key w w1 n cap _ _ hf ⟨h3,h9,h8⟩ h5 hc
 ·exact split_o6 key w w1 n cap _ _ hf ⟨h3,h9,h8⟩ (by omega)
end Go.Proofs.YtogdjbhjgbnicaaGreatDoor.KeysD