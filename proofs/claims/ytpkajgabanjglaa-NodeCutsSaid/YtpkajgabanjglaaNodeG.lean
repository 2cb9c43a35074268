/- The contract of the document's Get of layer 15; an inode out of a cell. -/
import Derived.Test.YtpkajgabanjglaaNodeR
namespace Go.Proofs.Ytpkajgabanjglaa.NodeG
set_option linter.unusedVariables false
set_option linter.unusedSimpArgs false
open Go.RowKit
open Go.Proofs.Ytpkajgabanjglaa.Byte Go.Proofs.Ytpkajgabanjglaa.PackM Go.Proofs.Ytpkajgabanjglaa.PackV Go.Proofs.Ytpkajgabanjglaa.PackS Go.Proofs.Ytpkajgabanjglaa.PackH Go.Proofs.Ytpkajgabanjglaa.ConvS Go.Proofs.Ytpkajgabanjglaa.KeysM Go.Proofs.Ytpkajgabanjglaa.KeysR Go.Proofs.Ytpkajgabanjglaa.KeysS Go.Proofs.Ytpkajgabanjglaa.NodeM Go.Proofs.Ytpkajgabanjglaa.NodeR
open Go.Proofs.Ytpkajgabanjglaa.Own hiding keeps

theorem results_row_tmp {P : Program} {fn : Func} {p u : Tmp} {ty : TypeId} (h : fn.results = #[.cell p ty, .tmp u]) (tmps : Array Value) (w : World) (g : Nat) (t : TypeId) (cs : Array Value) (fr : Nat × Nat) (d : TypeDesc)
    (hp : tmps.getD p undef = .pointer (some ⟨g, 0, none⟩)) (x : Value) (hx : tmps.getD u undef = x) (hg : w.heap[g]? = some (.cells cs t fr))
    (hu : P.underlying ty = some d) (hd : (match d with | .struct _ | .array _ _ => true | _ => false) = true) (hi : (P.info? ty).map (·.size) = some cs.size) :
    (results fn tmps).run P w = .ok (.tuple #[.agg cs, x]) w := by
  subst hx
  rw [results_cell_tmp h]
  have hp' : tmps[p]?.getD undef = .pointer (some ⟨g, 0, none⟩) := by simpa using hp
  simp [hp', asAddr, run_loadVar_row w g t ty cs fr d hg hu hd hi, Result.andThen]
theorem info_ino : (Try.prog.info? 24).map (·.size) = some 4 := by kernel_rfl
/-- The inode that is written, as answered. -/
def GetV (t : ByteArray) : Value := if gok t then .tuple #[.agg #[.int .u8 (gk t), .int .u32 (gl t), .int .u32 (gs t), .int .u32 (gp t)], .bool true] else .tuple #[.agg #[.int .u8 0, .int .u32 0, .int .u32 0, .int .u32 0], .bool false]
theorem getv_no {t : ByteArray} (h : gok t = false) : GetV t = .tuple #[.agg #[.int .u8 0, .int .u32 0, .int .u32 0, .int .u32 0], .bool false] := by
  unfold GetV
  rw [h]
  rfl
theorem getv_yes {t : ByteArray} (h : gok t = true) : GetV t = .tuple #[.agg #[.int .u8 (gk t), .int .u32 (gl t), .int .u32 (gs t), .int .u32 (gp t)], .bool true] := by
  unfold GetV
  rw [h]
  rfl
def GetE (t : ByteArray) (w : World) (e : Ending) (w' : World) : Prop := e = .returned (GetV t) ∧ Below w.heap.size w w'
theorem below_store {w w4 w5 : World} (h : Below w.heap.size w w4) (hg : w4.grownBy w5 (some w.heap.size)) (hs : w.heap.size ≤ w4.heap.size) : Below w.heap.size w w5 :=
  h.grown hg hs (fun g hv => by injection hv with hv; omega)
set_option maxRecDepth 100000 in
set_option maxHeartbeats 1000000 in
theorem refget_no (t : ByteArray) (w : World) (h : t.size ≠ 13) (hn : t.size ≤ maxLen) : Calls Try.prog 14 #[.string t] w (GetE t w) := by
  unfold maxLen at hn
  unfold GetE
  rw [getv_no (by unfold gok; rw [decide_eq_false h]; rfl)]
  have d : ((t.size : Int) != 13) = true := by simp; omega
  have hs : (t.size : Int) ≤ 9223372036854775807 := by omega
  have HB := Lib.hid ((Below.refl w.heap.size w).alloc (Nat.le_refl _) (.cells #[.int .u8 0, .int .u32 0, .int .u32 0, .int .u32 0] 24))
  have HR := Lib.hid (Blk.new_ w #[.int .u8 0, .int .u32 0, .int .u32 0, .int .u32 0] 24)
  clear h
  go_enter Try.func14, Try.ntmps14
  go_wp2_with ((with_reducible refine pick none ?_); refine store_blk rfl 24 _ _ rfl w.heap.size #[.int .u8 0, .int .u32 0, .int .u32 0, .int .u32 0] rfl rfl 24 _ HR.out info_ino rfl (by simp [Value.oneCell']) ?_; intro w5 hk5 hg5)
  exact bodyPost_ret (v := .tuple #[.agg #[.int .u8 0, .int .u32 0, .int .u32 0, .int .u32 0], .bool false]) (results_row_tmp rfl _ _ w.heap.size 24 _ (0, 0) _ rfl _ rfl hk5 Try.underlying24 rfl info_ino) rfl ⟨rfl, below_store HB.out hg5 (by simp)⟩
theorem gx_13 {t : ByteArray} (h : t.size = 13) (a : Nat) (ha : a ≤ 9) : gx (txt t) a 4 = PackM.getn (txt t) a 4 := by
  have hl := txt_len t
  have hg := g_ok (txt t) a 4 (by omega) (by rw [show width 4 = 4 from rfl]; omega)
  rw [hg.1]
  rfl
set_option maxRecDepth 100000 in
set_option maxHeartbeats 4000000 in
theorem refget_13 (t : ByteArray) (w : World) (h : t.size = 13) : Calls Try.prog 14 #[.string t] w (GetE t w) := by
  have g1 := gx_13 h 1 (by omega)
  have g5 := gx_13 h 5 (by omega)
  have g9 := gx_13 h 9 (by omega)
  have b1 := g_bd t 1
  have b5 := g_bd t 5
  have b9 := g_bd t 9
  have b0 := gk_bd t
  have HM := Lib.hid (fun w => refmay_calls (gk t) (gl t) (gs t) (gp t) w b0.1 b0.2 b1.1 b1.2 b5.1 b5.2 b9.1 b9.2)
  have hgok : gok t = may (gk t) (gl t) (gs t) (gp t) := by
    unfold gok
    rw [h]
    rfl
  have HB0 := (Below.refl w.heap.size w).alloc (Nat.le_refl _) (.cells #[.int .u8 0, .int .u32 0, .int .u32 0, .int .u32 0] 24)
  have HR := Blk.new_ w #[.int .u8 0, .int .u32 0, .int .u32 0, .int .u32 0] 24
  obtain ⟨cap, w1, hrun, hf, hb1⟩ := conv_key (w.alloc (.cells #[.int .u8 0, .int .u32 0, .int .u32 0, .int .u32 0] 24)) t
  have hsz : (w.alloc (.cells #[.int .u8 0, .int .u32 0, .int .u32 0, .int .u32 0] 24)).heap.size = w.heap.size + 1 := by simp
  rw [hsz] at hrun hf
  rw [h] at hrun hf
  have HB1 := Lib.hid (keeps HB0 hb1)
  have HR1 := Lib.hid (HR.below hb1)
  have hz1 := hb1.size
  rw [hsz] at hz1
  have HG1 := Lib.hid (refget_calls (some ⟨w.heap.size + 1, 0, none⟩) 13 cap (txt t) 1 4 w1 hf.bs (by omega) (by omega) (by omega) (by omega) (by omega))
  have HG5 := Lib.hid (refget_calls (some ⟨w.heap.size + 1, 0, none⟩) 13 cap (txt t) 5 4 w1 hf.bs (by omega) (by omega) (by omega) (by omega) (by omega))
  have HG9 := Lib.hid (refget_calls (some ⟨w.heap.size + 1, 0, none⟩) 13 cap (txt t) 9 4 w1 hf.bs (by omega) (by omega) (by omega) (by omega) (by omega))
  rw [show gx (txt t) 1 4 = gl t from g1] at HG1
  rw [show gx (txt t) 5 4 = gs t from g5] at HG5
  rw [show gx (txt t) 9 4 = gp t from g9] at HG9
  have hc := hf.bs.at_ 0 (by omega)
  rw [show (txt t).getD 0 0 = gk t from rfl, Nat.add_zero] at hc
  have hlt := World.block_lt_of_cell? w1 _ hc
  have v1 : IntKind.u32.wrap (gl t) = gl t := by rw [IntKind.wrap_u32]; unfold gl at *; omega
  have v5 : IntKind.u32.wrap (gs t) = gs t := by rw [IntKind.wrap_u32]; unfold gs at *; omega
  have v9 : IntKind.u32.wrap (gp t) = gp t := by rw [IntKind.wrap_u32]; unfold gp at *; omega
  clear HB0 HR hf hb1 hsz g1 g5 g9 b1 b5 b9
  have HH := Lib.hid h
  have HZ := Lib.hid hz1
  have d : ((t.size : Int) != 13) = false := by simp; omega
  have hs : (t.size : Int) ≤ 9223372036854775807 := by omega
  clear hz1 h
  unfold GetE
  cases hb : gok t with
  | true =>
    rw [getv_yes hb]
    rw [hgok.symm.trans hb] at HM
    clear hgok hb
    generalize gl t = L at *
    generalize gs t = S at *
    generalize gp t = Q at *
    generalize gk t = K at *
    go_enter Try.func14, Try.ntmps14
    go_wp2_with (first
      | ((with_reducible refine pick (some 20) ?_); refine wpList_conv rfl 9 40 _ rfl (.string t) (.slice (some ⟨w.heap.size + 1, 0, none⟩) 13 cap) rfl hrun ?_)
      | (go_at_call 22; (with_reducible refine HG1.out.mono ?_); rintro e w2 ⟨rfl, rfl⟩)
      | (go_at_call 22; (with_reducible refine HG5.out.mono ?_); rintro e w2 ⟨rfl, rfl⟩)
      | (go_at_call 22; (with_reducible refine HG9.out.mono ?_); rintro e w2 ⟨rfl, rfl⟩))
    refine (HM.out _).mono ?_
    rintro e w3 ⟨rfl, hb3⟩
    have hz := HZ.out
    have HR3 := Lib.hid ((HR1.out.alloc _).below hb3)
    have HX3 := Lib.hid ((Blk.new_ w1 #[.int .u8 K, .int .u32 L, .int .u32 S, .int .u32 Q] 24).below hb3)
    have HB3 := Lib.hid (keeps (HB1.out.alloc HB1.out.size _) hb3)
    have hz3 := hb3.size
    rw [show (w1.alloc (.cells #[.int .u8 K, .int .u32 L, .int .u32 S, .int .u32 Q] 24)).heap.size = w1.heap.size + 1 by simp] at hz3
    have HZ3 := Lib.hid (show w.heap.size ≤ w3.heap.size by omega)
    clear hb3 hz hz3
    go_wp2_with (first
      | ((with_reducible refine pick (some 53) ?_); refine load_blk rfl 24 _ rfl w1.heap.size rfl 24 _ _ HX3.out Try.underlying24 rfl info_ino ?_)
      | ((with_reducible refine pick none ?_); refine store_blk rfl 24 _ _ rfl w.heap.size #[.int .u8 K, .int .u32 L, .int .u32 S, .int .u32 Q] rfl rfl 24 _ HR3.out info_ino rfl (by simp [Value.oneCell']) ?_; intro w5 hk5 hg5))
    exact bodyPost_ret (v := .tuple #[.agg #[.int .u8 K, .int .u32 L, .int .u32 S, .int .u32 Q], .bool true]) (results_row_tmp rfl _ _ w.heap.size 24 _ (0, 0) _ rfl _ rfl hk5 Try.underlying24 rfl info_ino) rfl ⟨rfl, below_store HB3.out hg5 HZ3.out⟩
  | false =>
    rw [getv_no hb]
    rw [hgok.symm.trans hb] at HM
    clear hgok hb
    generalize gl t = L at *
    generalize gs t = S at *
    generalize gp t = Q at *
    generalize gk t = K at *
    go_enter Try.func14, Try.ntmps14
    go_wp2_with (first
      | ((with_reducible refine pick (some 20) ?_); refine wpList_conv rfl 9 40 _ rfl (.string t) (.slice (some ⟨w.heap.size + 1, 0, none⟩) 13 cap) rfl hrun ?_)
      | (go_at_call 22; (with_reducible refine HG1.out.mono ?_); rintro e w2 ⟨rfl, rfl⟩)
      | (go_at_call 22; (with_reducible refine HG5.out.mono ?_); rintro e w2 ⟨rfl, rfl⟩)
      | (go_at_call 22; (with_reducible refine HG9.out.mono ?_); rintro e w2 ⟨rfl, rfl⟩))
    refine (HM.out _).mono ?_
    rintro e w3 ⟨rfl, hb3⟩
    have hz := HZ.out
    have HR3 := Lib.hid ((HR1.out.alloc _).below hb3)
    have HB3 := Lib.hid (keeps (HB1.out.alloc HB1.out.size _) hb3)
    have hz3 := hb3.size
    rw [show (w1.alloc (.cells #[.int .u8 K, .int .u32 L, .int .u32 S, .int .u32 Q] 24)).heap.size = w1.heap.size + 1 by simp] at hz3
    have HZ3 := Lib.hid (show w.heap.size ≤ w3.heap.size by omega)
    clear hb3 hz hz3
    go_wp2_with ((with_reducible refine pick none ?_); refine store_blk rfl 24 _ _ rfl w.heap.size #[.int .u8 0, .int .u32 0, .int .u32 0, .int .u32 0] rfl rfl 24 _ HR3.out info_ino rfl (by simp [Value.oneCell']) ?_; intro w5 hk5 hg5)
    exact bodyPost_ret (v := .tuple #[.agg #[.int .u8 0, .int .u32 0, .int .u32 0, .int .u32 0], .bool false]) (results_row_tmp rfl _ _ w.heap.size 24 _ (0, 0) _ rfl _ rfl hk5 Try.underlying24 rfl info_ino) rfl ⟨rfl, below_store HB3.out hg5 HZ3.out⟩
theorem refget_calls15 (t : ByteArray) (w : World) (hn : t.size ≤ maxLen) : Calls Try.prog 14 #[.string t] w (GetE t w) := by
  by_cases h : t.size = 13
  · exact refget_13 t w h
  · exact refget_no t w h hn
end Go.Proofs.Ytpkajgabanjglaa.NodeG
