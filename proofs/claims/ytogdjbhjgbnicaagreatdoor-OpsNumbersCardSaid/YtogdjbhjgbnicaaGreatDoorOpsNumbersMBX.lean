import Derived.Deep.DeepCutAuto
import Derived.Deep.CutBlock
import Derived.Test.YtogdjbhjgbnicaaGreatDoorSq
import Derived.Test.YtogdjbhjgbnicaaGreatDoorOpsNumbersMBW
import Derived.Test.YtogdjbhjgbnicaaGreatDoorOpsNumbersMBT
set_option maxHeartbeats 16000000
set_option linter.unusedVariables false
set_option linter.unusedSimpArgs false
set_option maxRecDepth 100000
namespace Go.Proofs.YtogdjbhjgbnicaaGreatDoor.DirsBh
open Go.RowKit
open Byte KeysM TreeM ViewM ViewKm NodeM NodeG NamesM NamesL WalkM WalkF WalkKm DirsV Lst Chg TreeL ViewL WalkL WalkV Vat WalkKa WalkKb DirsK DirsKa DirsKb DirsKc DirsKd
open Own hiding keeps
open DirsBm RgN
variable {Rep : RepT}
theorem first_2g (a b : Int) (w : World) (g : Nat) (hg : w.heap.size = g) : Calls Tryz.prog 98 #[.slice (some ⟨g,0,none⟩) 2 2] (w.alloc (.cells #[.int .i64 a,.int .i64 b] 43)) fun e w' => e = .returned (.int .i64 (fst_ [a,b])) ∧ (w.alloc (.cells #[.int .i64 a,.int .i64 b] 43)) = w' := by
 subst hg
 exact first_2 a b w
theorem first_3g (a b c : Int) (w : World) (g : Nat) (hg : w.heap.size = g) : Calls Tryz.prog 98 #[.slice (some ⟨g,0,none⟩) 3 3] (w.alloc (.cells #[.int .i64 a,.int .i64 b,.int .i64 c] 43)) fun e w' => e = .returned (.int .i64 (fst_ [a,b,c])) ∧ (w.alloc (.cells #[.int .i64 a,.int .i64 b,.int .i64 c] 43)) = w' := by
 subst hg
 exact first_3 a b c w
theorem first_2d (a b : Int) (w : World) (g : Nat) (hg : w.heap.size = g) : Calls Tryz.prog 98 #[.slice (some ⟨g,0,none⟩) 2 2] (w.alloc (.cells #[.int .i64 a,.int .i64 b] 43)).drew fun e w' => e = .returned (.int .i64 (fst_ [a,b])) ∧ (w.alloc (.cells #[.int .i64 a,.int .i64 b] 43)).drew = w' := by
 subst hg
 exact first_calls _ 2 2 [a,b] _ ((So.lit erE 43 w (base := w.heap.size) [a,b] #[.int .i64 a,.int .i64 b] 2 rfl rfl (Nat.le_refl _) (by decide)).sl.below ((Below.refl _ _).drew)) (by decide)
theorem first_2b (a b : Int) (w : World) (g : Nat) (hg : w.heap.size = g) : (Calls Tryz.prog 98 #[.slice (some ⟨g,0,none⟩) 2 2] (w.alloc (.cells #[.int .i64 a,.int .i64 b] 43)) fun e w' => e = .returned (.int .i64 (fst_ [a,b])) ∧ (w.alloc (.cells #[.int .i64 a,.int .i64 b] 43)) = w') ∧ (Calls Tryz.prog 98 #[.slice (some ⟨g,0,none⟩) 2 2] (w.alloc (.cells #[.int .i64 a,.int .i64 b] 43)).drew fun e w' => e = .returned (.int .i64 (fst_ [a,b])) ∧ (w.alloc (.cells #[.int .i64 a,.int .i64 b] 43)).drew = w') := ⟨first_2g a b w g hg,first_2d a b w g hg⟩
theorem first_3d (a b c : Int) (w : World) (g : Nat) (hg : w.heap.size = g) : Calls Tryz.prog 98 #[.slice (some ⟨g,0,none⟩) 3 3] (w.alloc (.cells #[.int .i64 a,.int .i64 b,.int .i64 c] 43)).drew fun e w' => e = .returned (.int .i64 (fst_ [a,b,c])) ∧ (w.alloc (.cells #[.int .i64 a,.int .i64 b,.int .i64 c] 43)).drew = w' := by
 subst hg
 exact first_calls _ 3 3 [a,b,c] _ ((So.lit erE 43 w (base := w.heap.size) [a,b,c] #[.int .i64 a,.int .i64 b,.int .i64 c] 3 rfl rfl (Nat.le_refl _) (by decide)).sl.below ((Below.refl _ _).drew)) (by decide)
theorem first_3b (a b c : Int) (w : World) (g : Nat) (hg : w.heap.size = g) : (Calls Tryz.prog 98 #[.slice (some ⟨g,0,none⟩) 3 3] (w.alloc (.cells #[.int .i64 a,.int .i64 b,.int .i64 c] 43)) fun e w' => e = .returned (.int .i64 (fst_ [a,b,c])) ∧ (w.alloc (.cells #[.int .i64 a,.int .i64 b,.int .i64 c] 43)) = w') ∧ (Calls Tryz.prog 98 #[.slice (some ⟨g,0,none⟩) 3 3] (w.alloc (.cells #[.int .i64 a,.int .i64 b,.int .i64 c] 43)).drew fun e w' => e = .returned (.int .i64 (fst_ [a,b,c])) ∧ (w.alloc (.cells #[.int .i64 a,.int .i64 b,.int .i64 c] 43)).drew = w') := ⟨first_3g a b c w g hg,first_3d a b c w g hg⟩
theorem ren_err (hW0 : Wk Rep) (hRn : RangeN Rep) {w : World} {v : Value} {s : Vs} {S D : Nat → Prop} (old path : ByteArray) {xd xi xk xl xz xp er : Int} {xn : ByteArray} (hr : Rep w v s S D) (hl : Lim s) (h2 : s.rd.length ≤ 18000) (h3 : s.rg.length ≤ 900) (hx : Mxs w S) (hp : old.size ≤ 100000) (hp2 : path.size ≤ 100000) (hR : findM s.shown old = (⟨xd,xn,xi,⟨xk,xl,xz,xp⟩⟩,er)) (he : er ≠ 0) :
 Calls Tryz.prog 85 #[v,.string old,.string path] w (Ans Rep v s er [] 84 1 S D w) := by
 have A0 := hQ_ (At.start hr)
 have HX := hQ_ hx
 have HS := hQ_ hW0.stays
 have HL := hQ_ hl
 have C0 := hQ_ (aft0 s)
 have HWT := hQ_ when_t
 have HWF := hQ_ when_f
 have HFI := hQ_ (fun w (S D : Nat → Prop) (t : Vs) (hr : Rep w v t S D) (hsm : Sm t s) hl h2 hx => find_c hW0 old hR hr hsm hl h2 hp hx)
 unfold FndC at HFI
 have hsbx := find_bd s.shown old
 have hibx := find_ib s.shown old
 rw [hR] at hsbx hibx
 obtain ⟨x0,x1,x2,x3,x4⟩ := hsbx
 dsimp only at x0 x1 x2 x3 x4 HFI hibx
 have d0 : (er != 0) = true := by simpa using he
 clear hr hl hp hp2 hR hW0 hx
 rcases (show (xi ≠ 1 ∧ xi ≠ 0) ∨ (xi ≠ 1 ∧ xi = 0) ∨ xi = 1 by omega) with h0 | h0 | h0
 ·have d1 : (xi == 1) = false := by simp; omega
  have d2 : (xi == 0) = false := by simp; omega
  clear h0
  go_enter Tryz.func85,Tryz.ntmps85
  go_wp2_with fail
  refine (HFI.out _ _ _ _ A0.out.rep (Aft.sm0 C0.out.1) (lim_aft C0.out.1 HL.out (by omega) (by omega)) (by have := C0.out.1.rd; omega) (HX.out.at_ A0.out).1).mono ?_
  rintro e w1 ⟨s1,S1,D1,rfl,hr,st,hsm,hrd,hrg⟩
  have C1 := hQ_ (aftF C0.out hsm hrd hrg)
  have X1 := hQ_ (Blk.new_ w1 #[.int .u32 xd,.string xn,.int .u32 xi,.int .u8 xk,.int .u32 xl,.int .u32 xz,.int .u32 xp] 150)
  have hbn := bX_ X1.out
  have AQ := A0.out.step HS.out hr st
  have A1 := hQ_ (AQ.own HS.out hbn (Nat.le_refl w1.heap.size) (by simp))
  have f1_X0 := cC7 X1.out
  clear hr st hsm hrd hrg hbn AQ
  have FE2 : fst_ [er,0,0] = er := by unfold fst_; rw [if_neg he]
  have HF2 := hQ_ (first_3b (er) (0) (0) (w1.alloc (.cells #[.int .u32 xd,.string xn,.int .u32 xi,.int .u8 xk,.int .u32 xl,.int .u32 xz,.int .u32 xp] 150)) (w1.heap.size + 1) (by simp))
  rw [FE2] at HF2
  clear FE2
  go_upto_region 2 with (fail)
  go_cut [9] (fun p wx => p = .int .i64 (er) ∧ BL_ (w1.alloc (.cells #[.int .u32 xd,.string xn,.int .u32 xi,.int .u8 xk,.int .u32 xl,.int .u32 xz,.int .u32 xp] 150)) wx)
  case first =>
   go_region_law (first | (go_simp; go_at_call 99; (with_reducible refine (HWT.out _ _).mono ?_); rintro e w9 ⟨rfl,rfl⟩) | (go_simp; go_at_call 99; (with_reducible refine (HWF.out _ _).mono ?_); rintro e w9 ⟨rfl,rfl⟩) | (go_simp; go_at_call 98; (first | (with_reducible refine HF2.out.1.mono ?_) | (with_reducible refine HF2.out.2.mono ?_)); rintro e w9 ⟨rfl,rfl⟩))
   all_goals
    go_wp2_with fail
    go_meet
    exact fB_
  case rest =>
   obtain ⟨rfl,hbc⟩ := hcut
   have A2 := hQ_ (A1.out.below HS.out hbc)
   have X2 := hQ_ (X1.out.below hbc)
   skip
   have f2_X0 := cC7 X2.out
   clear hbc f1_X0
   clear he
   go_wp2_with fail
   go_ret
   exact Ans.ok A2.out ⟨C1.out.1.more (by omega) (by omega),C1.out.2⟩
 ·have d1 : (xi == 1) = false := by simp; omega
  have d2 : (xi == 0) = true := by simp; omega
  clear h0
  go_enter Tryz.func85,Tryz.ntmps85
  go_wp2_with fail
  refine (HFI.out _ _ _ _ A0.out.rep (Aft.sm0 C0.out.1) (lim_aft C0.out.1 HL.out (by omega) (by omega)) (by have := C0.out.1.rd; omega) (HX.out.at_ A0.out).1).mono ?_
  rintro e w3 ⟨s3,S3,D3,rfl,hr,st,hsm,hrd,hrg⟩
  have C3 := hQ_ (aftF C0.out hsm hrd hrg)
  have X3 := hQ_ (Blk.new_ w3 #[.int .u32 xd,.string xn,.int .u32 xi,.int .u8 xk,.int .u32 xl,.int .u32 xz,.int .u32 xp] 150)
  have hbn := bX_ X3.out
  have AQ := A0.out.step HS.out hr st
  have A3 := hQ_ (AQ.own HS.out hbn (Nat.le_refl w3.heap.size) (by simp))
  have f3_X0 := cC7 X3.out
  clear hr st hsm hrd hrg hbn AQ
  have FE4 : fst_ [er,0,10] = er := by unfold fst_; rw [if_neg he]
  have HF4 := hQ_ (first_3b (er) (0) (10) (w3.alloc (.cells #[.int .u32 xd,.string xn,.int .u32 xi,.int .u8 xk,.int .u32 xl,.int .u32 xz,.int .u32 xp] 150)) (w3.heap.size + 1) (by simp))
  rw [FE4] at HF4
  clear FE4
  go_upto_region 2 with (fail)
  go_cut [9] (fun p wx => p = .int .i64 (er) ∧ BL_ (w3.alloc (.cells #[.int .u32 xd,.string xn,.int .u32 xi,.int .u8 xk,.int .u32 xl,.int .u32 xz,.int .u32 xp] 150)) wx)
  case first =>
   go_region_law (first | (go_simp; go_at_call 99; (with_reducible refine (HWT.out _ _).mono ?_); rintro e w9 ⟨rfl,rfl⟩) | (go_simp; go_at_call 99; (with_reducible refine (HWF.out _ _).mono ?_); rintro e w9 ⟨rfl,rfl⟩) | (go_simp; go_at_call 98; (first | (with_reducible refine HF4.out.1.mono ?_) | (with_reducible refine HF4.out.2.mono ?_)); rintro e w9 ⟨rfl,rfl⟩))
   all_goals
    go_wp2_with fail
    go_meet
    exact fB_
  case rest =>
   obtain ⟨rfl,hbc⟩ := hcut
   have A4 := hQ_ (A3.out.below HS.out hbc)
   have X4 := hQ_ (X3.out.below hbc)
   skip
   have f4_X0 := cC7 X4.out
   clear hbc f3_X0
   clear he
   go_wp2_with fail
   go_ret
   exact Ans.ok A4.out ⟨C3.out.1.more (by omega) (by omega),C3.out.2⟩
 ·have d1 : (xi == 1) = true := by simp; omega
  have d2 : (xi == 0) = false := by simp; omega
  clear h0
  go_enter Tryz.func85,Tryz.ntmps85
  go_wp2_with fail
  refine (HFI.out _ _ _ _ A0.out.rep (Aft.sm0 C0.out.1) (lim_aft C0.out.1 HL.out (by omega) (by omega)) (by have := C0.out.1.rd; omega) (HX.out.at_ A0.out).1).mono ?_
  rintro e w5 ⟨s5,S5,D5,rfl,hr,st,hsm,hrd,hrg⟩
  have C5 := hQ_ (aftF C0.out hsm hrd hrg)
  have X5 := hQ_ (Blk.new_ w5 #[.int .u32 xd,.string xn,.int .u32 xi,.int .u8 xk,.int .u32 xl,.int .u32 xz,.int .u32 xp] 150)
  have hbn := bX_ X5.out
  have AQ := A0.out.step HS.out hr st
  have A5 := hQ_ (AQ.own HS.out hbn (Nat.le_refl w5.heap.size) (by simp))
  have f5_X0 := cC7 X5.out
  clear hr st hsm hrd hrg hbn AQ
  have FE6 : fst_ [er,29,0] = er := by unfold fst_; rw [if_neg he]
  have HF6 := hQ_ (first_3b (er) (29) (0) (w5.alloc (.cells #[.int .u32 xd,.string xn,.int .u32 xi,.int .u8 xk,.int .u32 xl,.int .u32 xz,.int .u32 xp] 150)) (w5.heap.size + 1) (by simp))
  rw [FE6] at HF6
  clear FE6
  go_upto_region 2 with (fail)
  go_cut [9] (fun p wx => p = .int .i64 (er) ∧ BL_ (w5.alloc (.cells #[.int .u32 xd,.string xn,.int .u32 xi,.int .u8 xk,.int .u32 xl,.int .u32 xz,.int .u32 xp] 150)) wx)
  case first =>
   go_region_law (first | (go_simp; go_at_call 99; (with_reducible refine (HWT.out _ _).mono ?_); rintro e w9 ⟨rfl,rfl⟩) | (go_simp; go_at_call 99; (with_reducible refine (HWF.out _ _).mono ?_); rintro e w9 ⟨rfl,rfl⟩) | (go_simp; go_at_call 98; (first | (with_reducible refine HF6.out.1.mono ?_) | (with_reducible refine HF6.out.2.mono ?_)); rintro e w9 ⟨rfl,rfl⟩))
   all_goals
    go_wp2_with fail
    go_meet
    exact fB_
  case rest =>
   obtain ⟨rfl,hbc⟩ := hcut
   have A6 := hQ_ (A5.out.below HS.out hbc)
   have X6 := hQ_ (X5.out.below hbc)
   skip
   have f6_X0 := cC7 X6.out
   clear hbc f5_X0
   clear he
   go_wp2_with fail
   go_ret
   exact Ans.ok A6.out ⟨C5.out.1.more (by omega) (by omega),C5.out.2⟩
theorem ren_root (hW0 : Wk Rep) (hRn : RangeN Rep) {w : World} {v : Value} {s : Vs} {S D : Nat → Prop} (old path : ByteArray) {xd xi xk xl xz xp er : Int} {xn : ByteArray} (hr : Rep w v s S D) (hl : Lim s) (h2 : s.rd.length ≤ 18000) (h3 : s.rg.length ≤ 900) (hx : Mxs w S) (hp : old.size ≤ 100000) (hp2 : path.size ≤ 100000) (hR : findM s.shown old = (⟨xd,xn,xi,⟨xk,xl,xz,xp⟩⟩,er)) (he : er = 0) (h1 : xi = 1) :
 Calls Tryz.prog 85 #[v,.string old,.string path] w (Ans Rep v s 29 [] 84 1 S D w) := by
 have A0 := hQ_ (At.start hr)
 have HX := hQ_ hx
 have HS := hQ_ hW0.stays
 have HL := hQ_ hl
 have C0 := hQ_ (aft0 s)
 have HWT := hQ_ when_t
 have HWF := hQ_ when_f
 have HFI := hQ_ (fun w (S D : Nat → Prop) (t : Vs) (hr : Rep w v t S D) (hsm : Sm t s) hl h2 hx => find_c hW0 old hR hr hsm hl h2 hp hx)
 unfold FndC at HFI
 have hsbx := find_bd s.shown old
 have hibx := find_ib s.shown old
 rw [hR] at hsbx hibx
 obtain ⟨x0,x1,x2,x3,x4⟩ := hsbx
 dsimp only at x0 x1 x2 x3 x4 HFI hibx
 subst he
 have d1 : (xi == 1) = true := by simpa using h1
 have d2 : (xi == 0) = false := by simp; omega
 clear hr hl hp hp2 hR hW0 hx h1
 go_enter Tryz.func85,Tryz.ntmps85
 go_wp2_with fail
 refine (HFI.out _ _ _ _ A0.out.rep (Aft.sm0 C0.out.1) (lim_aft C0.out.1 HL.out (by omega) (by omega)) (by have := C0.out.1.rd; omega) (HX.out.at_ A0.out).1).mono ?_
 rintro e w1 ⟨s1,S1,D1,rfl,hr,st,hsm,hrd,hrg⟩
 have C1 := hQ_ (aftF C0.out hsm hrd hrg)
 have X1 := hQ_ (Blk.new_ w1 #[.int .u32 xd,.string xn,.int .u32 xi,.int .u8 xk,.int .u32 xl,.int .u32 xz,.int .u32 xp] 150)
 have hbn := bX_ X1.out
 have AQ := A0.out.step HS.out hr st
 have A1 := hQ_ (AQ.own HS.out hbn (Nat.le_refl w1.heap.size) (by simp))
 have f1_X0 := cC7 X1.out
 clear hr st hsm hrd hrg hbn AQ
 have FE2 : fst_ [0,29,0] = 29 := rfl
 have HF2 := hQ_ (first_3b (0) (29) (0) (w1.alloc (.cells #[.int .u32 xd,.string xn,.int .u32 xi,.int .u8 xk,.int .u32 xl,.int .u32 xz,.int .u32 xp] 150)) (w1.heap.size + 1) (by simp))
 rw [FE2] at HF2
 clear FE2
 go_upto_region 2 with (fail)
 go_cut [9] (fun p wx => p = .int .i64 (29) ∧ BL_ (w1.alloc (.cells #[.int .u32 xd,.string xn,.int .u32 xi,.int .u8 xk,.int .u32 xl,.int .u32 xz,.int .u32 xp] 150)) wx)
 case first =>
  go_region_law (first | (go_simp; go_at_call 99; (with_reducible refine (HWT.out _ _).mono ?_); rintro e w9 ⟨rfl,rfl⟩) | (go_simp; go_at_call 99; (with_reducible refine (HWF.out _ _).mono ?_); rintro e w9 ⟨rfl,rfl⟩) | (go_simp; go_at_call 98; (first | (with_reducible refine HF2.out.1.mono ?_) | (with_reducible refine HF2.out.2.mono ?_)); rintro e w9 ⟨rfl,rfl⟩))
  all_goals
   go_wp2_with fail
   go_meet
   exact fB_
 case rest =>
  obtain ⟨rfl,hbc⟩ := hcut
  have A2 := hQ_ (A1.out.below HS.out hbc)
  have X2 := hQ_ (X1.out.below hbc)
  skip
  have f2_X0 := cC7 X2.out
  clear hbc f1_X0
  go_wp2_with fail
  go_ret
  exact Ans.ok A2.out ⟨C1.out.1.more (by omega) (by omega),C1.out.2⟩
theorem ren_none (hW0 : Wk Rep) (hRn : RangeN Rep) {w : World} {v : Value} {s : Vs} {S D : Nat → Prop} (old path : ByteArray) {xd xi xk xl xz xp er : Int} {xn : ByteArray} (hr : Rep w v s S D) (hl : Lim s) (h2 : s.rd.length ≤ 18000) (h3 : s.rg.length ≤ 900) (hx : Mxs w S) (hp : old.size ≤ 100000) (hp2 : path.size ≤ 100000) (hR : findM s.shown old = (⟨xd,xn,xi,⟨xk,xl,xz,xp⟩⟩,er)) (he : er = 0) (h0 : xi = 0) :
 Calls Tryz.prog 85 #[v,.string old,.string path] w (Ans Rep v s 10 [] 84 1 S D w) := by
 have A0 := hQ_ (At.start hr)
 have HX := hQ_ hx
 have HS := hQ_ hW0.stays
 have HL := hQ_ hl
 have C0 := hQ_ (aft0 s)
 have HWT := hQ_ when_t
 have HWF := hQ_ when_f
 have HFI := hQ_ (fun w (S D : Nat → Prop) (t : Vs) (hr : Rep w v t S D) (hsm : Sm t s) hl h2 hx => find_c hW0 old hR hr hsm hl h2 hp hx)
 unfold FndC at HFI
 have hsbx := find_bd s.shown old
 have hibx := find_ib s.shown old
 rw [hR] at hsbx hibx
 obtain ⟨x0,x1,x2,x3,x4⟩ := hsbx
 dsimp only at x0 x1 x2 x3 x4 HFI hibx
 subst he
 have d1 : (xi == 1) = false := by simp; omega
 have d2 : (xi == 0) = true := by simpa using h0
 clear hr hl hp hp2 hR hW0 hx h0
 go_enter Tryz.func85,Tryz.ntmps85
 go_wp2_with fail
 refine (HFI.out _ _ _ _ A0.out.rep (Aft.sm0 C0.out.1) (lim_aft C0.out.1 HL.out (by omega) (by omega)) (by have := C0.out.1.rd; omega) (HX.out.at_ A0.out).1).mono ?_
 rintro e w1 ⟨s1,S1,D1,rfl,hr,st,hsm,hrd,hrg⟩
 have C1 := hQ_ (aftF C0.out hsm hrd hrg)
 have X1 := hQ_ (Blk.new_ w1 #[.int .u32 xd,.string xn,.int .u32 xi,.int .u8 xk,.int .u32 xl,.int .u32 xz,.int .u32 xp] 150)
 have hbn := bX_ X1.out
 have AQ := A0.out.step HS.out hr st
 have A1 := hQ_ (AQ.own HS.out hbn (Nat.le_refl w1.heap.size) (by simp))
 have f1_X0 := cC7 X1.out
 clear hr st hsm hrd hrg hbn AQ
 have FE2 : fst_ [0,0,10] = 10 := rfl
 have HF2 := hQ_ (first_3b (0) (0) (10) (w1.alloc (.cells #[.int .u32 xd,.string xn,.int .u32 xi,.int .u8 xk,.int .u32 xl,.int .u32 xz,.int .u32 xp] 150)) (w1.heap.size + 1) (by simp))
 rw [FE2] at HF2
 clear FE2
 go_upto_region 2 with (fail)
 go_cut [9] (fun p wx => p = .int .i64 (10) ∧ BL_ (w1.alloc (.cells #[.int .u32 xd,.string xn,.int .u32 xi,.int .u8 xk,.int .u32 xl,.int .u32 xz,.int .u32 xp] 150)) wx)
 case first =>
  go_region_law (first | (go_simp; go_at_call 99; (with_reducible refine (HWT.out _ _).mono ?_); rintro e w9 ⟨rfl,rfl⟩) | (go_simp; go_at_call 99; (with_reducible refine (HWF.out _ _).mono ?_); rintro e w9 ⟨rfl,rfl⟩) | (go_simp; go_at_call 98; (first | (with_reducible refine HF2.out.1.mono ?_) | (with_reducible refine HF2.out.2.mono ?_)); rintro e w9 ⟨rfl,rfl⟩))
  all_goals
   go_wp2_with fail
   go_meet
   exact fB_
 case rest =>
  obtain ⟨rfl,hbc⟩ := hcut
  have A2 := hQ_ (A1.out.below HS.out hbc)
  have X2 := hQ_ (X1.out.below hbc)
  skip
  have f2_X0 := cC7 X2.out
  clear hbc f1_X0
  go_wp2_with fail
  go_ret
  exact Ans.ok A2.out ⟨C1.out.1.more (by omega) (by omega),C1.out.2⟩
theorem ren_err2_0 (hW0 : Wk Rep) (hRn : RangeN Rep) {w : World} {v : Value} {s : Vs} {S D : Nat → Prop} (old path : ByteArray) {xd xi xk xl xz xp er : Int} {xn : ByteArray} {yd yi yk yl yz yp er2 : Int} {yn : ByteArray} (hr : Rep w v s S D) (hl : Lim s) (h2 : s.rd.length ≤ 18000) (h3 : s.rg.length ≤ 900) (hx : Mxs w S) (hp : old.size ≤ 100000) (hp2 : path.size ≤ 100000) (hR : findM s.shown old = (⟨xd,xn,xi,⟨xk,xl,xz,xp⟩⟩,er)) (hR2 : findM s.shown path = (⟨yd,yn,yi,⟨yk,yl,yz,yp⟩⟩,er2)) (he : er = 0) (h0 : xi ≠ 0) (h1 : xi ≠ 1) (he2 : er2 ≠ 0) (h3 : yi ≠ 1) :
 Calls Tryz.prog 85 #[v,.string old,.string path] w (Ans Rep v s er2 [] 84 1 S D w) := by
 have A0 := hQ_ (At.start hr)
 have HX := hQ_ hx
 have HS := hQ_ hW0.stays
 have HL := hQ_ hl
 have C0 := hQ_ (aft0 s)
 have HWT := hQ_ when_t
 have HWF := hQ_ when_f
 have HFI := hQ_ (fun w (S D : Nat → Prop) (t : Vs) (hr : Rep w v t S D) (hsm : Sm t s) hl h2 hx => find_c hW0 old hR hr hsm hl h2 hp hx)
 unfold FndC at HFI
 have hsbx := find_bd s.shown old
 have hibx := find_ib s.shown old
 rw [hR] at hsbx hibx
 obtain ⟨x0,x1,x2,x3,x4⟩ := hsbx
 dsimp only at x0 x1 x2 x3 x4 HFI hibx
 have HFJ := hQ_ (fun w (S D : Nat → Prop) (t : Vs) (hr : Rep w v t S D) (hsm : Sm t s) hl h2 hx => find_c hW0 path hR2 hr hsm hl h2 hp2 hx)
 unfold FndC at HFJ
 have hsby := find_bd s.shown path
 have hiby := find_ib s.shown path
 rw [hR2] at hsby hiby
 obtain ⟨y0,y1,y2,y3,y4⟩ := hsby
 dsimp only at y0 y1 y2 y3 y4 HFJ hiby
 subst he
 have d1 : (xi == 1) = false := by simpa using h1
 have d2 : (xi == 0) = false := by simpa using h0
 have d3 : (er2 != 0) = true := by simpa using he2
 have d4 : (yi == 1) = false := by simpa using h3
 clear hr hl hp hp2 hR hW0 hR2 hx h0 h1 h3
 go_enter Tryz.func85,Tryz.ntmps85
 go_wp2_with fail
 refine (HFI.out _ _ _ _ A0.out.rep (Aft.sm0 C0.out.1) (lim_aft C0.out.1 HL.out (by omega) (by omega)) (by have := C0.out.1.rd; omega) (HX.out.at_ A0.out).1).mono ?_
 rintro e w1 ⟨s1,S1,D1,rfl,hr,st,hsm,hrd,hrg⟩
 have C1 := hQ_ (aftF C0.out hsm hrd hrg)
 have X1 := hQ_ (Blk.new_ w1 #[.int .u32 xd,.string xn,.int .u32 xi,.int .u8 xk,.int .u32 xl,.int .u32 xz,.int .u32 xp] 150)
 have hbn := bX_ X1.out
 have AQ := A0.out.step HS.out hr st
 have A1 := hQ_ (AQ.own HS.out hbn (Nat.le_refl w1.heap.size) (by simp))
 have f1_X0 := cC7 X1.out
 clear hr st hsm hrd hrg hbn AQ
 have FE2 : fst_ [0,0,0] = 0 := rfl
 have HF2 := hQ_ (first_3b (0) (0) (0) (w1.alloc (.cells #[.int .u32 xd,.string xn,.int .u32 xi,.int .u8 xk,.int .u32 xl,.int .u32 xz,.int .u32 xp] 150)) (w1.heap.size + 1) (by simp))
 rw [FE2] at HF2
 clear FE2
 go_upto_region 2 with (fail)
 go_cut [9] (fun p wx => p = .int .i64 (0) ∧ BL_ (w1.alloc (.cells #[.int .u32 xd,.string xn,.int .u32 xi,.int .u8 xk,.int .u32 xl,.int .u32 xz,.int .u32 xp] 150)) wx)
 case first =>
  go_region_law (first | (go_simp; go_at_call 99; (with_reducible refine (HWT.out _ _).mono ?_); rintro e w9 ⟨rfl,rfl⟩) | (go_simp; go_at_call 99; (with_reducible refine (HWF.out _ _).mono ?_); rintro e w9 ⟨rfl,rfl⟩) | (go_simp; go_at_call 98; (first | (with_reducible refine HF2.out.1.mono ?_) | (with_reducible refine HF2.out.2.mono ?_)); rintro e w9 ⟨rfl,rfl⟩))
  all_goals
   go_wp2_with fail
   go_meet
   exact fB_
 case rest =>
  obtain ⟨rfl,hbc⟩ := hcut
  have A2 := hQ_ (A1.out.below HS.out hbc)
  have X2 := hQ_ (X1.out.below hbc)
  skip
  have f2_X0 := cC7 X2.out
  clear hbc f1_X0
  go_wp2_with fail
  refine (HFJ.out _ _ _ _ A2.out.rep (Aft.sm0 C1.out.1) (lim_aft C1.out.1 HL.out (by omega) (by omega)) (by have := C1.out.1.rd; omega) (HX.out.at_ A2.out).1).mono ?_
  rintro e w3 ⟨s3,S3,D3,rfl,hr,st,hsm,hrd,hrg⟩
  have C3 := hQ_ (aftF C1.out hsm hrd hrg)
  have Y3 := hQ_ (Blk.new_ w3 #[.int .u32 yd,.string yn,.int .u32 yi,.int .u8 yk,.int .u32 yl,.int .u32 yz,.int .u32 yp] 150)
  have hbn := bX_ Y3.out
  have AQ := A2.out.step HS.out hr st
  have A3 := hQ_ (AQ.own HS.out hbn (Nat.le_refl w3.heap.size) (by simp))
  have X3 := hQ_ ((A2.out.blk HS.out X2.out (.inr rfl) st).below hbn)
  have f3_X0 := cC7 X3.out
  have f3_Y0 := cC7 Y3.out
  clear hr st hsm hrd hrg hbn AQ f2_X0
  have FE4 : fst_ [er2,0] = er2 := by unfold fst_; rw [if_neg he2]
  have HF4 := hQ_ (first_2b (er2) (0) (w3.alloc (.cells #[.int .u32 yd,.string yn,.int .u32 yi,.int .u8 yk,.int .u32 yl,.int .u32 yz,.int .u32 yp] 150)) (w3.heap.size + 1) (by simp))
  rw [FE4] at HF4
  clear FE4
  go_upto_region 6 with (fail)
  go_cut [11] (fun p wx => p = .int .i64 (er2) ∧ BL_ (w3.alloc (.cells #[.int .u32 yd,.string yn,.int .u32 yi,.int .u8 yk,.int .u32 yl,.int .u32 yz,.int .u32 yp] 150)) wx)
  case first =>
   go_wp2_with (first | (go_at_call 99; (with_reducible refine (HWT.out _ _).mono ?_); rintro e w9 ⟨rfl,rfl⟩) | (go_at_call 99; (with_reducible refine (HWF.out _ _).mono ?_); rintro e w9 ⟨rfl,rfl⟩) | (go_at_call 98; (with_reducible refine HF4.out.1.mono ?_); rintro e w9 ⟨rfl,rfl⟩))
   all_goals
    go_meet
    exact fB_
  case rest =>
   obtain ⟨rfl,hbc⟩ := hcut
   have A4 := hQ_ (A3.out.below HS.out hbc)
   have X4 := hQ_ (X3.out.below hbc)
   have Y4 := hQ_ (Y3.out.below hbc)
   skip
   have f4_X0 := cC7 X4.out
   have f4_Y0 := cC7 Y4.out
   clear hbc f3_X0 f3_Y0
   clear he2
   go_wp2_with fail
   go_ret
   exact Ans.ok A4.out ⟨C3.out.1.more (by omega) (by omega),C3.out.2⟩
theorem ren_err2_1 (hW0 : Wk Rep) (hRn : RangeN Rep) {w : World} {v : Value} {s : Vs} {S D : Nat → Prop} (old path : ByteArray) {xd xi xk xl xz xp er : Int} {xn : ByteArray} {yd yi yk yl yz yp er2 : Int} {yn : ByteArray} (hr : Rep w v s S D) (hl : Lim s) (h2 : s.rd.length ≤ 18000) (h3 : s.rg.length ≤ 900) (hx : Mxs w S) (hp : old.size ≤ 100000) (hp2 : path.size ≤ 100000) (hR : findM s.shown old = (⟨xd,xn,xi,⟨xk,xl,xz,xp⟩⟩,er)) (hR2 : findM s.shown path = (⟨yd,yn,yi,⟨yk,yl,yz,yp⟩⟩,er2)) (he : er = 0) (h0 : xi ≠ 0) (h1 : xi ≠ 1) (he2 : er2 ≠ 0) (h3 : yi = 1) :
 Calls Tryz.prog 85 #[v,.string old,.string path] w (Ans Rep v s er2 [] 84 1 S D w) := by
 have A0 := hQ_ (At.start hr)
 have HX := hQ_ hx
 have HS := hQ_ hW0.stays
 have HL := hQ_ hl
 have C0 := hQ_ (aft0 s)
 have HWT := hQ_ when_t
 have HWF := hQ_ when_f
 have HFI := hQ_ (fun w (S D : Nat → Prop) (t : Vs) (hr : Rep w v t S D) (hsm : Sm t s) hl h2 hx => find_c hW0 old hR hr hsm hl h2 hp hx)
 unfold FndC at HFI
 have hsbx := find_bd s.shown old
 have hibx := find_ib s.shown old
 rw [hR] at hsbx hibx
 obtain ⟨x0,x1,x2,x3,x4⟩ := hsbx
 dsimp only at x0 x1 x2 x3 x4 HFI hibx
 have HFJ := hQ_ (fun w (S D : Nat → Prop) (t : Vs) (hr : Rep w v t S D) (hsm : Sm t s) hl h2 hx => find_c hW0 path hR2 hr hsm hl h2 hp2 hx)
 unfold FndC at HFJ
 have hsby := find_bd s.shown path
 have hiby := find_ib s.shown path
 rw [hR2] at hsby hiby
 obtain ⟨y0,y1,y2,y3,y4⟩ := hsby
 dsimp only at y0 y1 y2 y3 y4 HFJ hiby
 subst he
 have d1 : (xi == 1) = false := by simpa using h1
 have d2 : (xi == 0) = false := by simpa using h0
 have d3 : (er2 != 0) = true := by simpa using he2
 have d4 : (yi == 1) = true := by simpa using h3
 clear hr hl hp hp2 hR hW0 hR2 hx h0 h1 h3
 go_enter Tryz.func85,Tryz.ntmps85
 go_wp2_with fail
 refine (HFI.out _ _ _ _ A0.out.rep (Aft.sm0 C0.out.1) (lim_aft C0.out.1 HL.out (by omega) (by omega)) (by have := C0.out.1.rd; omega) (HX.out.at_ A0.out).1).mono ?_
 rintro e w1 ⟨s1,S1,D1,rfl,hr,st,hsm,hrd,hrg⟩
 have C1 := hQ_ (aftF C0.out hsm hrd hrg)
 have X1 := hQ_ (Blk.new_ w1 #[.int .u32 xd,.string xn,.int .u32 xi,.int .u8 xk,.int .u32 xl,.int .u32 xz,.int .u32 xp] 150)
 have hbn := bX_ X1.out
 have AQ := A0.out.step HS.out hr st
 have A1 := hQ_ (AQ.own HS.out hbn (Nat.le_refl w1.heap.size) (by simp))
 have f1_X0 := cC7 X1.out
 clear hr st hsm hrd hrg hbn AQ
 have FE2 : fst_ [0,0,0] = 0 := rfl
 have HF2 := hQ_ (first_3b (0) (0) (0) (w1.alloc (.cells #[.int .u32 xd,.string xn,.int .u32 xi,.int .u8 xk,.int .u32 xl,.int .u32 xz,.int .u32 xp] 150)) (w1.heap.size + 1) (by simp))
 rw [FE2] at HF2
 clear FE2
 go_upto_region 2 with (fail)
 go_cut [9] (fun p wx => p = .int .i64 (0) ∧ BL_ (w1.alloc (.cells #[.int .u32 xd,.string xn,.int .u32 xi,.int .u8 xk,.int .u32 xl,.int .u32 xz,.int .u32 xp] 150)) wx)
 case first =>
  go_region_law (first | (go_simp; go_at_call 99; (with_reducible refine (HWT.out _ _).mono ?_); rintro e w9 ⟨rfl,rfl⟩) | (go_simp; go_at_call 99; (with_reducible refine (HWF.out _ _).mono ?_); rintro e w9 ⟨rfl,rfl⟩) | (go_simp; go_at_call 98; (first | (with_reducible refine HF2.out.1.mono ?_) | (with_reducible refine HF2.out.2.mono ?_)); rintro e w9 ⟨rfl,rfl⟩))
  all_goals
   go_wp2_with fail
   go_meet
   exact fB_
 case rest =>
  obtain ⟨rfl,hbc⟩ := hcut
  have A2 := hQ_ (A1.out.below HS.out hbc)
  have X2 := hQ_ (X1.out.below hbc)
  skip
  have f2_X0 := cC7 X2.out
  clear hbc f1_X0
  go_wp2_with fail
  refine (HFJ.out _ _ _ _ A2.out.rep (Aft.sm0 C1.out.1) (lim_aft C1.out.1 HL.out (by omega) (by omega)) (by have := C1.out.1.rd; omega) (HX.out.at_ A2.out).1).mono ?_
  rintro e w3 ⟨s3,S3,D3,rfl,hr,st,hsm,hrd,hrg⟩
  have C3 := hQ_ (aftF C1.out hsm hrd hrg)
  have Y3 := hQ_ (Blk.new_ w3 #[.int .u32 yd,.string yn,.int .u32 yi,.int .u8 yk,.int .u32 yl,.int .u32 yz,.int .u32 yp] 150)
  have hbn := bX_ Y3.out
  have AQ := A2.out.step HS.out hr st
  have A3 := hQ_ (AQ.own HS.out hbn (Nat.le_refl w3.heap.size) (by simp))
  have X3 := hQ_ ((A2.out.blk HS.out X2.out (.inr rfl) st).below hbn)
  have f3_X0 := cC7 X3.out
  have f3_Y0 := cC7 Y3.out
  clear hr st hsm hrd hrg hbn AQ f2_X0
  have FE4 : fst_ [er2,29] = er2 := by unfold fst_; rw [if_neg he2]
  have HF4 := hQ_ (first_2b (er2) (29) (w3.alloc (.cells #[.int .u32 yd,.string yn,.int .u32 yi,.int .u8 yk,.int .u32 yl,.int .u32 yz,.int .u32 yp] 150)) (w3.heap.size + 1) (by simp))
  rw [FE4] at HF4
  clear FE4
  go_upto_region 6 with (fail)
  go_cut [11] (fun p wx => p = .int .i64 (er2) ∧ BL_ (w3.alloc (.cells #[.int .u32 yd,.string yn,.int .u32 yi,.int .u8 yk,.int .u32 yl,.int .u32 yz,.int .u32 yp] 150)) wx)
  case first =>
   go_wp2_with (first | (go_at_call 99; (with_reducible refine (HWT.out _ _).mono ?_); rintro e w9 ⟨rfl,rfl⟩) | (go_at_call 99; (with_reducible refine (HWF.out _ _).mono ?_); rintro e w9 ⟨rfl,rfl⟩) | (go_at_call 98; (with_reducible refine HF4.out.1.mono ?_); rintro e w9 ⟨rfl,rfl⟩))
   all_goals
    go_meet
    exact fB_
  case rest =>
   obtain ⟨rfl,hbc⟩ := hcut
   have A4 := hQ_ (A3.out.below HS.out hbc)
   have X4 := hQ_ (X3.out.below hbc)
   have Y4 := hQ_ (Y3.out.below hbc)
   skip
   have f4_X0 := cC7 X4.out
   have f4_Y0 := cC7 Y4.out
   clear hbc f3_X0 f3_Y0
   clear he2
   go_wp2_with fail
   go_ret
   exact Ans.ok A4.out ⟨C3.out.1.more (by omega) (by omega),C3.out.2⟩
theorem ren_root2 (hW0 : Wk Rep) (hRn : RangeN Rep) {w : World} {v : Value} {s : Vs} {S D : Nat → Prop} (old path : ByteArray) {xd xi xk xl xz xp er : Int} {xn : ByteArray} {yd yi yk yl yz yp er2 : Int} {yn : ByteArray} (hr : Rep w v s S D) (hl : Lim s) (h2 : s.rd.length ≤ 18000) (h3 : s.rg.length ≤ 900) (hx : Mxs w S) (hp : old.size ≤ 100000) (hp2 : path.size ≤ 100000) (hR : findM s.shown old = (⟨xd,xn,xi,⟨xk,xl,xz,xp⟩⟩,er)) (hR2 : findM s.shown path = (⟨yd,yn,yi,⟨yk,yl,yz,yp⟩⟩,er2)) (he : er = 0) (h0 : xi ≠ 0) (h1 : xi ≠ 1) (he2 : er2 = 0) (h3 : yi = 1) :
 Calls Tryz.prog 85 #[v,.string old,.string path] w (Ans Rep v s 29 [] 84 1 S D w) := by
 have A0 := hQ_ (At.start hr)
 have HX := hQ_ hx
 have HS := hQ_ hW0.stays
 have HL := hQ_ hl
 have C0 := hQ_ (aft0 s)
 have HWT := hQ_ when_t
 have HWF := hQ_ when_f
 have HFI := hQ_ (fun w (S D : Nat → Prop) (t : Vs) (hr : Rep w v t S D) (hsm : Sm t s) hl h2 hx => find_c hW0 old hR hr hsm hl h2 hp hx)
 unfold FndC at HFI
 have hsbx := find_bd s.shown old
 have hibx := find_ib s.shown old
 rw [hR] at hsbx hibx
 obtain ⟨x0,x1,x2,x3,x4⟩ := hsbx
 dsimp only at x0 x1 x2 x3 x4 HFI hibx
 have HFJ := hQ_ (fun w (S D : Nat → Prop) (t : Vs) (hr : Rep w v t S D) (hsm : Sm t s) hl h2 hx => find_c hW0 path hR2 hr hsm hl h2 hp2 hx)
 unfold FndC at HFJ
 have hsby := find_bd s.shown path
 have hiby := find_ib s.shown path
 rw [hR2] at hsby hiby
 obtain ⟨y0,y1,y2,y3,y4⟩ := hsby
 dsimp only at y0 y1 y2 y3 y4 HFJ hiby
 subst he
 have d1 : (xi == 1) = false := by simpa using h1
 have d2 : (xi == 0) = false := by simpa using h0
 subst he2
 have d4 : (yi == 1) = true := by simpa using h3
 clear hr hl hp hp2 hR hW0 hR2 hx h0 h1 h3
 go_enter Tryz.func85,Tryz.ntmps85
 go_wp2_with fail
 refine (HFI.out _ _ _ _ A0.out.rep (Aft.sm0 C0.out.1) (lim_aft C0.out.1 HL.out (by omega) (by omega)) (by have := C0.out.1.rd; omega) (HX.out.at_ A0.out).1).mono ?_
 rintro e w1 ⟨s1,S1,D1,rfl,hr,st,hsm,hrd,hrg⟩
 have C1 := hQ_ (aftF C0.out hsm hrd hrg)
 have X1 := hQ_ (Blk.new_ w1 #[.int .u32 xd,.string xn,.int .u32 xi,.int .u8 xk,.int .u32 xl,.int .u32 xz,.int .u32 xp] 150)
 have hbn := bX_ X1.out
 have AQ := A0.out.step HS.out hr st
 have A1 := hQ_ (AQ.own HS.out hbn (Nat.le_refl w1.heap.size) (by simp))
 have f1_X0 := cC7 X1.out
 clear hr st hsm hrd hrg hbn AQ
 have FE2 : fst_ [0,0,0] = 0 := rfl
 have HF2 := hQ_ (first_3b (0) (0) (0) (w1.alloc (.cells #[.int .u32 xd,.string xn,.int .u32 xi,.int .u8 xk,.int .u32 xl,.int .u32 xz,.int .u32 xp] 150)) (w1.heap.size + 1) (by simp))
 rw [FE2] at HF2
 clear FE2
 go_upto_region 2 with (fail)
 go_cut [9] (fun p wx => p = .int .i64 (0) ∧ BL_ (w1.alloc (.cells #[.int .u32 xd,.string xn,.int .u32 xi,.int .u8 xk,.int .u32 xl,.int .u32 xz,.int .u32 xp] 150)) wx)
 case first =>
  go_region_law (first | (go_simp; go_at_call 99; (with_reducible refine (HWT.out _ _).mono ?_); rintro e w9 ⟨rfl,rfl⟩) | (go_simp; go_at_call 99; (with_reducible refine (HWF.out _ _).mono ?_); rintro e w9 ⟨rfl,rfl⟩) | (go_simp; go_at_call 98; (first | (with_reducible refine HF2.out.1.mono ?_) | (with_reducible refine HF2.out.2.mono ?_)); rintro e w9 ⟨rfl,rfl⟩))
  all_goals
   go_wp2_with fail
   go_meet
   exact fB_
 case rest =>
  obtain ⟨rfl,hbc⟩ := hcut
  have A2 := hQ_ (A1.out.below HS.out hbc)
  have X2 := hQ_ (X1.out.below hbc)
  skip
  have f2_X0 := cC7 X2.out
  clear hbc f1_X0
  go_wp2_with fail
  refine (HFJ.out _ _ _ _ A2.out.rep (Aft.sm0 C1.out.1) (lim_aft C1.out.1 HL.out (by omega) (by omega)) (by have := C1.out.1.rd; omega) (HX.out.at_ A2.out).1).mono ?_
  rintro e w3 ⟨s3,S3,D3,rfl,hr,st,hsm,hrd,hrg⟩
  have C3 := hQ_ (aftF C1.out hsm hrd hrg)
  have Y3 := hQ_ (Blk.new_ w3 #[.int .u32 yd,.string yn,.int .u32 yi,.int .u8 yk,.int .u32 yl,.int .u32 yz,.int .u32 yp] 150)
  have hbn := bX_ Y3.out
  have AQ := A2.out.step HS.out hr st
  have A3 := hQ_ (AQ.own HS.out hbn (Nat.le_refl w3.heap.size) (by simp))
  have X3 := hQ_ ((A2.out.blk HS.out X2.out (.inr rfl) st).below hbn)
  have f3_X0 := cC7 X3.out
  have f3_Y0 := cC7 Y3.out
  clear hr st hsm hrd hrg hbn AQ f2_X0
  have FE4 : fst_ [0,29] = 29 := rfl
  have HF4 := hQ_ (first_2b (0) (29) (w3.alloc (.cells #[.int .u32 yd,.string yn,.int .u32 yi,.int .u8 yk,.int .u32 yl,.int .u32 yz,.int .u32 yp] 150)) (w3.heap.size + 1) (by simp))
  rw [FE4] at HF4
  clear FE4
  go_upto_region 6 with (fail)
  go_cut [11] (fun p wx => p = .int .i64 (29) ∧ BL_ (w3.alloc (.cells #[.int .u32 yd,.string yn,.int .u32 yi,.int .u8 yk,.int .u32 yl,.int .u32 yz,.int .u32 yp] 150)) wx)
  case first =>
   go_wp2_with (first | (go_at_call 99; (with_reducible refine (HWT.out _ _).mono ?_); rintro e w9 ⟨rfl,rfl⟩) | (go_at_call 99; (with_reducible refine (HWF.out _ _).mono ?_); rintro e w9 ⟨rfl,rfl⟩) | (go_at_call 98; (with_reducible refine HF4.out.1.mono ?_); rintro e w9 ⟨rfl,rfl⟩))
   all_goals
    go_meet
    exact fB_
  case rest =>
   obtain ⟨rfl,hbc⟩ := hcut
   have A4 := hQ_ (A3.out.below HS.out hbc)
   have X4 := hQ_ (X3.out.below hbc)
   have Y4 := hQ_ (Y3.out.below hbc)
   skip
   have f4_X0 := cC7 X4.out
   have f4_Y0 := cC7 Y4.out
   clear hbc f3_X0 f3_Y0
   go_wp2_with fail
   go_ret
   exact Ans.ok A4.out ⟨C3.out.1.more (by omega) (by omega),C3.out.2⟩
theorem ren_same (hW0 : Wk Rep) (hRn : RangeN Rep) {w : World} {v : Value} {s : Vs} {S D : Nat → Prop} (old path : ByteArray) {xd xi xk xl xz xp er : Int} {xn : ByteArray} {yd yi yk yl yz yp er2 : Int} {yn : ByteArray} (hr : Rep w v s S D) (hl : Lim s) (h2 : s.rd.length ≤ 18000) (h3 : s.rg.length ≤ 900) (hx : Mxs w S) (hp : old.size ≤ 100000) (hp2 : path.size ≤ 100000) (hR : findM s.shown old = (⟨xd,xn,xi,⟨xk,xl,xz,xp⟩⟩,er)) (hR2 : findM s.shown path = (⟨yd,yn,yi,⟨yk,yl,yz,yp⟩⟩,er2)) (he : er = 0) (h0 : xi ≠ 0) (h1 : xi ≠ 1) (he2 : er2 = 0) (h3 : yi ≠ 1) (h4 : xi = yi) :
 Calls Tryz.prog 85 #[v,.string old,.string path] w (Ans Rep v s 0 [] 84 1 S D w) := by
 have A0 := hQ_ (At.start hr)
 have HX := hQ_ hx
 have HS := hQ_ hW0.stays
 have HL := hQ_ hl
 have C0 := hQ_ (aft0 s)
 have HWT := hQ_ when_t
 have HWF := hQ_ when_f
 have HFI := hQ_ (fun w (S D : Nat → Prop) (t : Vs) (hr : Rep w v t S D) (hsm : Sm t s) hl h2 hx => find_c hW0 old hR hr hsm hl h2 hp hx)
 unfold FndC at HFI
 have hsbx := find_bd s.shown old
 have hibx := find_ib s.shown old
 rw [hR] at hsbx hibx
 obtain ⟨x0,x1,x2,x3,x4⟩ := hsbx
 dsimp only at x0 x1 x2 x3 x4 HFI hibx
 have HFJ := hQ_ (fun w (S D : Nat → Prop) (t : Vs) (hr : Rep w v t S D) (hsm : Sm t s) hl h2 hx => find_c hW0 path hR2 hr hsm hl h2 hp2 hx)
 unfold FndC at HFJ
 have hsby := find_bd s.shown path
 have hiby := find_ib s.shown path
 rw [hR2] at hsby hiby
 obtain ⟨y0,y1,y2,y3,y4⟩ := hsby
 dsimp only at y0 y1 y2 y3 y4 HFJ hiby
 subst he
 have d1 : (xi == 1) = false := by simpa using h1
 have d2 : (xi == 0) = false := by simpa using h0
 subst he2
 have d4 : (yi == 1) = false := by simpa using h3
 have d5 : (xi == yi) = true := by simpa using h4
 clear hr hl hp hp2 hR hW0 hR2 hx h0 h1 h3 h4
 go_enter Tryz.func85,Tryz.ntmps85
 go_wp2_with fail
 refine (HFI.out _ _ _ _ A0.out.rep (Aft.sm0 C0.out.1) (lim_aft C0.out.1 HL.out (by omega) (by omega)) (by have := C0.out.1.rd; omega) (HX.out.at_ A0.out).1).mono ?_
 rintro e w1 ⟨s1,S1,D1,rfl,hr,st,hsm,hrd,hrg⟩
 have C1 := hQ_ (aftF C0.out hsm hrd hrg)
 have X1 := hQ_ (Blk.new_ w1 #[.int .u32 xd,.string xn,.int .u32 xi,.int .u8 xk,.int .u32 xl,.int .u32 xz,.int .u32 xp] 150)
 have hbn := bX_ X1.out
 have AQ := A0.out.step HS.out hr st
 have A1 := hQ_ (AQ.own HS.out hbn (Nat.le_refl w1.heap.size) (by simp))
 have f1_X0 := cC7 X1.out
 clear hr st hsm hrd hrg hbn AQ
 have FE2 : fst_ [0,0,0] = 0 := rfl
 have HF2 := hQ_ (first_3b (0) (0) (0) (w1.alloc (.cells #[.int .u32 xd,.string xn,.int .u32 xi,.int .u8 xk,.int .u32 xl,.int .u32 xz,.int .u32 xp] 150)) (w1.heap.size + 1) (by simp))
 rw [FE2] at HF2
 clear FE2
 go_upto_region 2 with (fail)
 go_cut [9] (fun p wx => p = .int .i64 (0) ∧ BL_ (w1.alloc (.cells #[.int .u32 xd,.string xn,.int .u32 xi,.int .u8 xk,.int .u32 xl,.int .u32 xz,.int .u32 xp] 150)) wx)
 case first =>
  go_region_law (first | (go_simp; go_at_call 99; (with_reducible refine (HWT.out _ _).mono ?_); rintro e w9 ⟨rfl,rfl⟩) | (go_simp; go_at_call 99; (with_reducible refine (HWF.out _ _).mono ?_); rintro e w9 ⟨rfl,rfl⟩) | (go_simp; go_at_call 98; (first | (with_reducible refine HF2.out.1.mono ?_) | (with_reducible refine HF2.out.2.mono ?_)); rintro e w9 ⟨rfl,rfl⟩))
  all_goals
   go_wp2_with fail
   go_meet
   exact fB_
 case rest =>
  obtain ⟨rfl,hbc⟩ := hcut
  have A2 := hQ_ (A1.out.below HS.out hbc)
  have X2 := hQ_ (X1.out.below hbc)
  skip
  have f2_X0 := cC7 X2.out
  clear hbc f1_X0
  go_wp2_with fail
  refine (HFJ.out _ _ _ _ A2.out.rep (Aft.sm0 C1.out.1) (lim_aft C1.out.1 HL.out (by omega) (by omega)) (by have := C1.out.1.rd; omega) (HX.out.at_ A2.out).1).mono ?_
  rintro e w3 ⟨s3,S3,D3,rfl,hr,st,hsm,hrd,hrg⟩
  have C3 := hQ_ (aftF C1.out hsm hrd hrg)
  have Y3 := hQ_ (Blk.new_ w3 #[.int .u32 yd,.string yn,.int .u32 yi,.int .u8 yk,.int .u32 yl,.int .u32 yz,.int .u32 yp] 150)
  have hbn := bX_ Y3.out
  have AQ := A2.out.step HS.out hr st
  have A3 := hQ_ (AQ.own HS.out hbn (Nat.le_refl w3.heap.size) (by simp))
  have X3 := hQ_ ((A2.out.blk HS.out X2.out (.inr rfl) st).below hbn)
  have f3_X0 := cC7 X3.out
  have f3_Y0 := cC7 Y3.out
  clear hr st hsm hrd hrg hbn AQ f2_X0
  have FE4 : fst_ [0,0] = 0 := rfl
  have HF4 := hQ_ (first_2b (0) (0) (w3.alloc (.cells #[.int .u32 yd,.string yn,.int .u32 yi,.int .u8 yk,.int .u32 yl,.int .u32 yz,.int .u32 yp] 150)) (w3.heap.size + 1) (by simp))
  rw [FE4] at HF4
  clear FE4
  go_upto_region 6 with (fail)
  go_cut [11] (fun p wx => p = .int .i64 (0) ∧ BL_ (w3.alloc (.cells #[.int .u32 yd,.string yn,.int .u32 yi,.int .u8 yk,.int .u32 yl,.int .u32 yz,.int .u32 yp] 150)) wx)
  case first =>
   go_wp2_with (first | (go_at_call 99; (with_reducible refine (HWT.out _ _).mono ?_); rintro e w9 ⟨rfl,rfl⟩) | (go_at_call 99; (with_reducible refine (HWF.out _ _).mono ?_); rintro e w9 ⟨rfl,rfl⟩) | (go_at_call 98; (with_reducible refine HF4.out.1.mono ?_); rintro e w9 ⟨rfl,rfl⟩))
   all_goals
    go_meet
    exact fB_
  case rest =>
   obtain ⟨rfl,hbc⟩ := hcut
   have A4 := hQ_ (A3.out.below HS.out hbc)
   have X4 := hQ_ (X3.out.below hbc)
   have Y4 := hQ_ (Y3.out.below hbc)
   skip
   have f4_X0 := cC7 X4.out
   have f4_Y0 := cC7 Y4.out
   clear hbc f3_X0 f3_Y0
   go_wp2_with fail
   go_ret
   exact Ans.ok A4.out ⟨C3.out.1.more (by omega) (by omega),C3.out.2⟩
theorem ren_into (hW0 : Wk Rep) (hRn : RangeN Rep) {w : World} {v : Value} {s : Vs} {S D : Nat → Prop} (old path : ByteArray) {xd xi xk xl xz xp er : Int} {xn : ByteArray} {yd yi yk yl yz yp er2 : Int} {yn : ByteArray} (hr : Rep w v s S D) (hl : Lim s) (h2 : s.rd.length ≤ 18000) (h3 : s.rg.length ≤ 900) (hx : Mxs w S) (hp : old.size ≤ 100000) (hp2 : path.size ≤ 100000) (hR : findM s.shown old = (⟨xd,xn,xi,⟨xk,xl,xz,xp⟩⟩,er)) (hR2 : findM s.shown path = (⟨yd,yn,yi,⟨yk,yl,yz,yp⟩⟩,er2)) (he : er = 0) (h0 : xi ≠ 0) (h1 : xi ≠ 1) (he2 : er2 = 0) (h3 : yi ≠ 1) (h4 : xi ≠ yi) (h5 : xk = 2) (hu : under (spl old).1 (spl path).1 = true) :
 Calls Tryz.prog 85 #[v,.string old,.string path] w (Ans Rep v s 15 [] 84 1 S D w) := by
 have A0 := hQ_ (At.start hr)
 have HX := hQ_ hx
 have HS := hQ_ hW0.stays
 have HL := hQ_ hl
 have C0 := hQ_ (aft0 s)
 have HWT := hQ_ when_t
 have HWF := hQ_ when_f
 have HFI := hQ_ (fun w (S D : Nat → Prop) (t : Vs) (hr : Rep w v t S D) (hsm : Sm t s) hl h2 hx => find_c hW0 old hR hr hsm hl h2 hp hx)
 unfold FndC at HFI
 have hsbx := find_bd s.shown old
 have hibx := find_ib s.shown old
 rw [hR] at hsbx hibx
 obtain ⟨x0,x1,x2,x3,x4⟩ := hsbx
 dsimp only at x0 x1 x2 x3 x4 HFI hibx
 have HFJ := hQ_ (fun w (S D : Nat → Prop) (t : Vs) (hr : Rep w v t S D) (hsm : Sm t s) hl h2 hx => find_c hW0 path hR2 hr hsm hl h2 hp2 hx)
 unfold FndC at HFJ
 have hsby := find_bd s.shown path
 have hiby := find_ib s.shown path
 rw [hR2] at hsby hiby
 obtain ⟨y0,y1,y2,y3,y4⟩ := hsby
 dsimp only at y0 y1 y2 y3 y4 HFJ hiby
 subst he
 have d1 : (xi == 1) = false := by simpa using h1
 have d2 : (xi == 0) = false := by simpa using h0
 subst he2
 have d4 : (yi == 1) = false := by simpa using h3
 have d5 : (xi == yi) = false := by simpa using h4
 have HWI := hQ_ (fun w (hx : Mx w) => within_calls old path w hp hp2 hx)
 have HUN := hQ_ hu
 have d6 : (xk == 2) = true := by simpa using h5
 clear hr hl hp hp2 hR hW0 hR2 hx h0 h1 h3 h4 h5 hu
 go_enter Tryz.func85,Tryz.ntmps85
 go_wp2_with fail
 refine (HFI.out _ _ _ _ A0.out.rep (Aft.sm0 C0.out.1) (lim_aft C0.out.1 HL.out (by omega) (by omega)) (by have := C0.out.1.rd; omega) (HX.out.at_ A0.out).1).mono ?_
 rintro e w1 ⟨s1,S1,D1,rfl,hr,st,hsm,hrd,hrg⟩
 have C1 := hQ_ (aftF C0.out hsm hrd hrg)
 have X1 := hQ_ (Blk.new_ w1 #[.int .u32 xd,.string xn,.int .u32 xi,.int .u8 xk,.int .u32 xl,.int .u32 xz,.int .u32 xp] 150)
 have hbn := bX_ X1.out
 have AQ := A0.out.step HS.out hr st
 have A1 := hQ_ (AQ.own HS.out hbn (Nat.le_refl w1.heap.size) (by simp))
 have f1_X0 := cC7 X1.out
 clear hr st hsm hrd hrg hbn AQ
 have FE2 : fst_ [0,0,0] = 0 := rfl
 have HF2 := hQ_ (first_3b (0) (0) (0) (w1.alloc (.cells #[.int .u32 xd,.string xn,.int .u32 xi,.int .u8 xk,.int .u32 xl,.int .u32 xz,.int .u32 xp] 150)) (w1.heap.size + 1) (by simp))
 rw [FE2] at HF2
 clear FE2
 go_upto_region 2 with (fail)
 go_cut [9] (fun p wx => p = .int .i64 (0) ∧ BL_ (w1.alloc (.cells #[.int .u32 xd,.string xn,.int .u32 xi,.int .u8 xk,.int .u32 xl,.int .u32 xz,.int .u32 xp] 150)) wx)
 case first =>
  go_region_law (first | (go_simp; go_at_call 99; (with_reducible refine (HWT.out _ _).mono ?_); rintro e w9 ⟨rfl,rfl⟩) | (go_simp; go_at_call 99; (with_reducible refine (HWF.out _ _).mono ?_); rintro e w9 ⟨rfl,rfl⟩) | (go_simp; go_at_call 98; (first | (with_reducible refine HF2.out.1.mono ?_) | (with_reducible refine HF2.out.2.mono ?_)); rintro e w9 ⟨rfl,rfl⟩))
  all_goals
   go_wp2_with fail
   go_meet
   exact fB_
 case rest =>
  obtain ⟨rfl,hbc⟩ := hcut
  have A2 := hQ_ (A1.out.below HS.out hbc)
  have X2 := hQ_ (X1.out.below hbc)
  skip
  have f2_X0 := cC7 X2.out
  clear hbc f1_X0
  go_wp2_with fail
  refine (HFJ.out _ _ _ _ A2.out.rep (Aft.sm0 C1.out.1) (lim_aft C1.out.1 HL.out (by omega) (by omega)) (by have := C1.out.1.rd; omega) (HX.out.at_ A2.out).1).mono ?_
  rintro e w3 ⟨s3,S3,D3,rfl,hr,st,hsm,hrd,hrg⟩
  have C3 := hQ_ (aftF C1.out hsm hrd hrg)
  have Y3 := hQ_ (Blk.new_ w3 #[.int .u32 yd,.string yn,.int .u32 yi,.int .u8 yk,.int .u32 yl,.int .u32 yz,.int .u32 yp] 150)
  have hbn := bX_ Y3.out
  have AQ := A2.out.step HS.out hr st
  have A3 := hQ_ (AQ.own HS.out hbn (Nat.le_refl w3.heap.size) (by simp))
  have X3 := hQ_ ((A2.out.blk HS.out X2.out (.inr rfl) st).below hbn)
  have f3_X0 := cC7 X3.out
  have f3_Y0 := cC7 Y3.out
  clear hr st hsm hrd hrg hbn AQ f2_X0
  have FE4 : fst_ [0,0] = 0 := rfl
  have HF4 := hQ_ (first_2b (0) (0) (w3.alloc (.cells #[.int .u32 yd,.string yn,.int .u32 yi,.int .u8 yk,.int .u32 yl,.int .u32 yz,.int .u32 yp] 150)) (w3.heap.size + 1) (by simp))
  rw [FE4] at HF4
  clear FE4
  go_upto_region 6 with (fail)
  go_cut [11] (fun p wx => p = .int .i64 (0) ∧ BL_ (w3.alloc (.cells #[.int .u32 yd,.string yn,.int .u32 yi,.int .u8 yk,.int .u32 yl,.int .u32 yz,.int .u32 yp] 150)) wx)
  case first =>
   go_wp2_with (first | (go_at_call 99; (with_reducible refine (HWT.out _ _).mono ?_); rintro e w9 ⟨rfl,rfl⟩) | (go_at_call 99; (with_reducible refine (HWF.out _ _).mono ?_); rintro e w9 ⟨rfl,rfl⟩) | (go_at_call 98; (with_reducible refine HF4.out.1.mono ?_); rintro e w9 ⟨rfl,rfl⟩))
   all_goals
    go_meet
    exact fB_
  case rest =>
   obtain ⟨rfl,hbc⟩ := hcut
   have A4 := hQ_ (A3.out.below HS.out hbc)
   have X4 := hQ_ (X3.out.below hbc)
   have Y4 := hQ_ (Y3.out.below hbc)
   skip
   have f4_X0 := cC7 X4.out
   have f4_Y0 := cC7 Y4.out
   clear hbc f3_X0 f3_Y0
   go_wp2_with fail
   refine (HWI.out _ (HX.out.at_ A4.out).1).mono ?_
   rw [HUN.out]
   rintro e w5 ⟨rfl,hbn⟩
   have A5 := hQ_ (A4.out.below HS.out hbn)
   have X5 := hQ_ (X4.out.below hbn)
   have Y5 := hQ_ (Y4.out.below hbn)
   have f5_X0 := cC7 X5.out
   have f5_Y0 := cC7 Y5.out
   clear hbn f4_X0 f4_Y0
   go_wp2_with fail
   go_ret
   exact Ans.ok A5.out ⟨C3.out.1.more (by omega) (by omega),C3.out.2⟩
theorem ren_rep_t (hW0 : Wk Rep) (hRn : RangeN Rep) {w : World} {v : Value} {s : Vs} {S D : Nat → Prop} (old path : ByteArray) {xd xi xk xl xz xp er : Int} {xn : ByteArray} {yd yi yk yl yz yp er2 : Int} {yn : ByteArray} (hr : Rep w v s S D) (hl : Lim s) (h2 : s.rd.length ≤ 18000) (h3 : s.rg.length ≤ 900) (hx : Mxs w S) (hp : old.size ≤ 100000) (hp2 : path.size ≤ 100000) (hR : findM s.shown old = (⟨xd,xn,xi,⟨xk,xl,xz,xp⟩⟩,er)) (hR2 : findM s.shown path = (⟨yd,yn,yi,⟨yk,yl,yz,yp⟩⟩,er2)) (he : er = 0) (h0 : xi ≠ 0) (h1 : xi ≠ 1) (he2 : er2 = 0) (h3 : yi ≠ 1) (h4 : xi ≠ yi) (hk : ∀ p ∈ s.shown,(sp p.key).letter ≠ 0) (h5 : xk = 2) (hu : under (spl old).1 (spl path).1 = false) {rx : Int} {ps : List Wrt} (hrx : clrB s.shown ⟨yd,yn,yi,⟨yk,yl,yz,yp⟩⟩ true = (rx,ps)) (hx0 : rx ≠ 0) :
 Calls Tryz.prog 85 #[v,.string old,.string path] w (Ans Rep v s rx [] 84 1 S D w) := by
 have A0 := hQ_ (At.start hr)
 have HX := hQ_ hx
 have HS := hQ_ hW0.stays
 have HL := hQ_ hl
 have C0 := hQ_ (aft0 s)
 have HWT := hQ_ when_t
 have HWF := hQ_ when_f
 have HFI := hQ_ (fun w (S D : Nat → Prop) (t : Vs) (hr : Rep w v t S D) (hsm : Sm t s) hl h2 hx => find_c hW0 old hR hr hsm hl h2 hp hx)
 unfold FndC at HFI
 have hsbx := find_bd s.shown old
 have hibx := find_ib s.shown old
 rw [hR] at hsbx hibx
 obtain ⟨x0,x1,x2,x3,x4⟩ := hsbx
 dsimp only at x0 x1 x2 x3 x4 HFI hibx
 have HFJ := hQ_ (fun w (S D : Nat → Prop) (t : Vs) (hr : Rep w v t S D) (hsm : Sm t s) hl h2 hx => find_c hW0 path hR2 hr hsm hl h2 hp2 hx)
 unfold FndC at HFJ
 have hsby := find_bd s.shown path
 have hiby := find_ib s.shown path
 rw [hR2] at hsby hiby
 obtain ⟨y0,y1,y2,y3,y4⟩ := hsby
 dsimp only at y0 y1 y2 y3 y4 HFJ hiby
 have hps : ps = [] := by
  have h := clrB_err (L := s.shown) (x := ⟨yd,yn,yi,⟨yk,yl,yz,yp⟩⟩) (d := true) (by rw [hrx]; exact hx0)
  rw [hrx] at h
  exact h
 subst hps
 subst he
 have d1 : (xi == 1) = false := by simpa using h1
 have d2 : (xi == 0) = false := by simpa using h0
 subst he2
 have d4 : (yi == 1) = false := by simpa using h3
 have d5 : (xi == yi) = false := by simpa using h4
 have HWI := hQ_ (fun w (hx : Mx w) => within_calls old path w hp hp2 hx)
 have HUN := hQ_ hu
 have d6 : (xk == 2) = true := by simpa using h5
 clear hu
 have HRC := hQ_ (fun w (S D : Nat → Prop) (t : Vs) (hr : Rep w v t S D) (hsm : Sm t s) (hl : Lim t) (h2 : t.rd.length ≤ 19900) (h3 : t.rg.length ≤ 985) => show Calls _ _ _ _ (Ans Rep v t (clrB s.shown ⟨yd,yn,yi,⟨yk,yl,yz,yp⟩⟩ true).1 (clrB s.shown ⟨yd,yn,yi,⟨yk,yl,yz,yp⟩⟩ true).2 1 1 S D w) by have h := DirsBd.replace_calls hW0 hRn yd yi yk yl yz yp xk yn hr hl h2 h3 y0 y1 y2 y3 y4 hiby (by rw [hsm.shown]; exact hk); rw [hsm.shown,decide_eq_true h5] at h; exact h)
 rw [hrx] at HRC
 dsimp only at HRC
 have d7 : (rx != 0) = true := by simpa using hx0
 clear hr hl hp hp2 hR hW0 hR2 hx h0 h1 h3 h4 h5 hk hrx hx0
 go_enter Tryz.func85,Tryz.ntmps85
 go_wp2_with fail
 refine (HFI.out _ _ _ _ A0.out.rep (Aft.sm0 C0.out.1) (lim_aft C0.out.1 HL.out (by omega) (by omega)) (by have := C0.out.1.rd; omega) (HX.out.at_ A0.out).1).mono ?_
 rintro e w1 ⟨s1,S1,D1,rfl,hr,st,hsm,hrd,hrg⟩
 have C1 := hQ_ (aftF C0.out hsm hrd hrg)
 have X1 := hQ_ (Blk.new_ w1 #[.int .u32 xd,.string xn,.int .u32 xi,.int .u8 xk,.int .u32 xl,.int .u32 xz,.int .u32 xp] 150)
 have hbn := bX_ X1.out
 have AQ := A0.out.step HS.out hr st
 have A1 := hQ_ (AQ.own HS.out hbn (Nat.le_refl w1.heap.size) (by simp))
 have f1_X0 := cC7 X1.out
 clear hr st hsm hrd hrg hbn AQ
 have FE2 : fst_ [0,0,0] = 0 := rfl
 have HF2 := hQ_ (first_3b (0) (0) (0) (w1.alloc (.cells #[.int .u32 xd,.string xn,.int .u32 xi,.int .u8 xk,.int .u32 xl,.int .u32 xz,.int .u32 xp] 150)) (w1.heap.size + 1) (by simp))
 rw [FE2] at HF2
 clear FE2
 go_upto_region 2 with (fail)
 go_cut [9] (fun p wx => p = .int .i64 (0) ∧ BL_ (w1.alloc (.cells #[.int .u32 xd,.string xn,.int .u32 xi,.int .u8 xk,.int .u32 xl,.int .u32 xz,.int .u32 xp] 150)) wx)
 case first =>
  go_region_law (first | (go_simp; go_at_call 99; (with_reducible refine (HWT.out _ _).mono ?_); rintro e w9 ⟨rfl,rfl⟩) | (go_simp; go_at_call 99; (with_reducible refine (HWF.out _ _).mono ?_); rintro e w9 ⟨rfl,rfl⟩) | (go_simp; go_at_call 98; (first | (with_reducible refine HF2.out.1.mono ?_) | (with_reducible refine HF2.out.2.mono ?_)); rintro e w9 ⟨rfl,rfl⟩))
  all_goals
   go_wp2_with fail
   go_meet
   exact fB_
 case rest =>
  obtain ⟨rfl,hbc⟩ := hcut
  have A2 := hQ_ (A1.out.below HS.out hbc)
  have X2 := hQ_ (X1.out.below hbc)
  skip
  have f2_X0 := cC7 X2.out
  clear hbc f1_X0
  go_wp2_with fail
  refine (HFJ.out _ _ _ _ A2.out.rep (Aft.sm0 C1.out.1) (lim_aft C1.out.1 HL.out (by omega) (by omega)) (by have := C1.out.1.rd; omega) (HX.out.at_ A2.out).1).mono ?_
  rintro e w3 ⟨s3,S3,D3,rfl,hr,st,hsm,hrd,hrg⟩
  have C3 := hQ_ (aftF C1.out hsm hrd hrg)
  have Y3 := hQ_ (Blk.new_ w3 #[.int .u32 yd,.string yn,.int .u32 yi,.int .u8 yk,.int .u32 yl,.int .u32 yz,.int .u32 yp] 150)
  have hbn := bX_ Y3.out
  have AQ := A2.out.step HS.out hr st
  have A3 := hQ_ (AQ.own HS.out hbn (Nat.le_refl w3.heap.size) (by simp))
  have X3 := hQ_ ((A2.out.blk HS.out X2.out (.inr rfl) st).below hbn)
  have f3_X0 := cC7 X3.out
  have f3_Y0 := cC7 Y3.out
  clear hr st hsm hrd hrg hbn AQ f2_X0
  have FE4 : fst_ [0,0] = 0 := rfl
  have HF4 := hQ_ (first_2b (0) (0) (w3.alloc (.cells #[.int .u32 yd,.string yn,.int .u32 yi,.int .u8 yk,.int .u32 yl,.int .u32 yz,.int .u32 yp] 150)) (w3.heap.size + 1) (by simp))
  rw [FE4] at HF4
  clear FE4
  go_upto_region 6 with (fail)
  go_cut [11] (fun p wx => p = .int .i64 (0) ∧ BL_ (w3.alloc (.cells #[.int .u32 yd,.string yn,.int .u32 yi,.int .u8 yk,.int .u32 yl,.int .u32 yz,.int .u32 yp] 150)) wx)
  case first =>
   go_wp2_with (first | (go_at_call 99; (with_reducible refine (HWT.out _ _).mono ?_); rintro e w9 ⟨rfl,rfl⟩) | (go_at_call 99; (with_reducible refine (HWF.out _ _).mono ?_); rintro e w9 ⟨rfl,rfl⟩) | (go_at_call 98; (with_reducible refine HF4.out.1.mono ?_); rintro e w9 ⟨rfl,rfl⟩))
   all_goals
    go_meet
    exact fB_
  case rest =>
   obtain ⟨rfl,hbc⟩ := hcut
   have A4 := hQ_ (A3.out.below HS.out hbc)
   have X4 := hQ_ (X3.out.below hbc)
   have Y4 := hQ_ (Y3.out.below hbc)
   skip
   have f4_X0 := cC7 X4.out
   have f4_Y0 := cC7 Y4.out
   clear hbc f3_X0 f3_Y0
   go_wp2_with fail
   refine (HWI.out _ (HX.out.at_ A4.out).1).mono ?_
   rw [HUN.out]
   rintro e w5 ⟨rfl,hbn⟩
   have A5 := hQ_ (A4.out.below HS.out hbn)
   have X5 := hQ_ (X4.out.below hbn)
   have Y5 := hQ_ (Y4.out.below hbn)
   have f5_X0 := cC7 X5.out
   have f5_Y0 := cC7 Y5.out
   clear hbn f4_X0 f4_Y0
   go_wp2_with fail
   refine (HRC.out _ _ _ _ A5.out.rep (Aft.sm0 C3.out.1) (lim_aft C3.out.1 HL.out (by omega) (by omega)) (by have := C3.out.1.rd; omega) (by have := C3.out.1.rg; omega)).mono ?_
   intro e w6 hh
   rcases Ans.split hh with ⟨s6,S6,D6,rfl,ho,hr,st,ha⟩ | ⟨s6,S6,D6,rfl,ho,hr,st,ha⟩
   ·have A6 := hQ_ (A5.out.step HS.out hr st)
    have C6 := hQ_ (Aft.thru C3.out (And.intro ha ho))
    clear hr st ha ho
    go_wp2_with fail
    go_ret
    exact Ans.ok A6.out ⟨C6.out.1.more (by omega) (by omega),C6.out.2⟩
   ·have A6 := hQ_ (A5.out.step HS.out hr st)
    have C6 := hQ_ (Aft.thru C3.out (And.intro ha ho))
    clear hr st ha ho
    go_wp2_with fail
    go_ret
    exact Ans.full A6.out ⟨C6.out.1.more (by omega) (by omega),C6.out.2⟩
theorem ren_do_t (hW0 : Wk Rep) (hRn : RangeN Rep) {w : World} {v : Value} {s : Vs} {S D : Nat → Prop} (old path : ByteArray) {xd xi xk xl xz xp er : Int} {xn : ByteArray} {yd yi yk yl yz yp er2 : Int} {yn : ByteArray} (hr : Rep w v s S D) (hl : Lim s) (h2 : s.rd.length ≤ 18000) (h3 : s.rg.length ≤ 900) (hx : Mxs w S) (hp : old.size ≤ 100000) (hp2 : path.size ≤ 100000) (hR : findM s.shown old = (⟨xd,xn,xi,⟨xk,xl,xz,xp⟩⟩,er)) (hR2 : findM s.shown path = (⟨yd,yn,yi,⟨yk,yl,yz,yp⟩⟩,er2)) (he : er = 0) (h0 : xi ≠ 0) (h1 : xi ≠ 1) (he2 : er2 = 0) (h3 : yi ≠ 1) (h4 : xi ≠ yi) (hk : ∀ p ∈ s.shown,(sp p.key).letter ≠ 0) (h5 : xk = 2) (hu : under (spl old).1 (spl path).1 = false) {ps : List Wrt} (hrx : clrB s.shown ⟨yd,yn,yi,⟨yk,yl,yz,yp⟩⟩ true = (0,ps)) :
 Calls Tryz.prog 85 #[v,.string old,.string path] w (Ans Rep v s 0 (ps ++ movPs ⟨xd,xn,xi,⟨xk,xl,xz,xp⟩⟩ ⟨yd,yn,yi,⟨yk,yl,yz,yp⟩⟩) 84 1 S D w) := by
 have A0 := hQ_ (At.start hr)
 have HX := hQ_ hx
 have HS := hQ_ hW0.stays
 have HL := hQ_ hl
 have HRO := hQ_ room_calls
 have C0 := hQ_ (aft0 s)
 have HWT := hQ_ when_t
 have HWF := hQ_ when_f
 have HFI := hQ_ (fun w (S D : Nat → Prop) (t : Vs) (hr : Rep w v t S D) (hsm : Sm t s) hl h2 hx => find_c hW0 old hR hr hsm hl h2 hp hx)
 unfold FndC at HFI
 have hsbx := find_bd s.shown old
 have hibx := find_ib s.shown old
 rw [hR] at hsbx hibx
 obtain ⟨x0,x1,x2,x3,x4⟩ := hsbx
 dsimp only at x0 x1 x2 x3 x4 HFI hibx
 have HFJ := hQ_ (fun w (S D : Nat → Prop) (t : Vs) (hr : Rep w v t S D) (hsm : Sm t s) hl h2 hx => find_c hW0 path hR2 hr hsm hl h2 hp2 hx)
 unfold FndC at HFJ
 have hsby := find_bd s.shown path
 have hiby := find_ib s.shown path
 rw [hR2] at hsby hiby
 obtain ⟨y0,y1,y2,y3,y4⟩ := hsby
 dsimp only at y0 y1 y2 y3 y4 HFJ hiby
 have HMV := hQ_ (fun w (S D : Nat → Prop) (t : Vs) (hr : Rep w v t S D) hl h2 h3 => move_calls hW0 xd xi xk xl xz xp xn yd yi yk yl yz yp yn (s := t) (w := w) (S := S) (D := D) (v := v) hr hl h2 h3 x0 x1 x2 x3 (by omega) y0 y1 y2 y3 (by omega))
 obtain ⟨mv,hmv⟩ : ∃ mv,movPs ⟨xd,xn,xi,⟨xk,xl,xz,xp⟩⟩ ⟨yd,yn,yi,⟨yk,yl,yz,yp⟩⟩ = mv := ⟨_,rfl⟩
 rw [hmv] at HMV ⊢
 subst he
 have d1 : (xi == 1) = false := by simpa using h1
 have d2 : (xi == 0) = false := by simpa using h0
 subst he2
 have d4 : (yi == 1) = false := by simpa using h3
 have d5 : (xi == yi) = false := by simpa using h4
 have HWI := hQ_ (fun w (hx : Mx w) => within_calls old path w hp hp2 hx)
 have HUN := hQ_ hu
 have d6 : (xk == 2) = true := by simpa using h5
 clear hu
 have HRC := hQ_ (fun w (S D : Nat → Prop) (t : Vs) (hr : Rep w v t S D) (hsm : Sm t s) (hl : Lim t) (h2 : t.rd.length ≤ 19900) (h3 : t.rg.length ≤ 985) => show Calls _ _ _ _ (Ans Rep v t (clrB s.shown ⟨yd,yn,yi,⟨yk,yl,yz,yp⟩⟩ true).1 (clrB s.shown ⟨yd,yn,yi,⟨yk,yl,yz,yp⟩⟩ true).2 1 1 S D w) by have h := DirsBd.replace_calls hW0 hRn yd yi yk yl yz yp xk yn hr hl h2 h3 y0 y1 y2 y3 y4 hiby (by rw [hsm.shown]; exact hk); rw [hsm.shown,decide_eq_true h5] at h; exact h)
 rw [hrx] at HRC
 dsimp only at HRC
 clear hr hl hp hp2 hR hW0 hR2 hx h0 h1 h3 h4 h5 hk hrx hmv
 go_enter Tryz.func85,Tryz.ntmps85
 go_wp2_with fail
 refine (HFI.out _ _ _ _ A0.out.rep (Aft.sm0 C0.out.1) (lim_aft C0.out.1 HL.out (by omega) (by omega)) (by have := C0.out.1.rd; omega) (HX.out.at_ A0.out).1).mono ?_
 rintro e w1 ⟨s1,S1,D1,rfl,hr,st,hsm,hrd,hrg⟩
 have C1 := hQ_ (aftF C0.out hsm hrd hrg)
 have X1 := hQ_ (Blk.new_ w1 #[.int .u32 xd,.string xn,.int .u32 xi,.int .u8 xk,.int .u32 xl,.int .u32 xz,.int .u32 xp] 150)
 have hbn := bX_ X1.out
 have AQ := A0.out.step HS.out hr st
 have A1 := hQ_ (AQ.own HS.out hbn (Nat.le_refl w1.heap.size) (by simp))
 have f1_X0 := cC7 X1.out
 clear hr st hsm hrd hrg hbn AQ
 have FE2 : fst_ [0,0,0] = 0 := rfl
 have HF2 := hQ_ (first_3b (0) (0) (0) (w1.alloc (.cells #[.int .u32 xd,.string xn,.int .u32 xi,.int .u8 xk,.int .u32 xl,.int .u32 xz,.int .u32 xp] 150)) (w1.heap.size + 1) (by simp))
 rw [FE2] at HF2
 clear FE2
 go_upto_region 2 with (fail)
 go_cut [9] (fun p wx => p = .int .i64 (0) ∧ BL_ (w1.alloc (.cells #[.int .u32 xd,.string xn,.int .u32 xi,.int .u8 xk,.int .u32 xl,.int .u32 xz,.int .u32 xp] 150)) wx)
 case first =>
  go_region_law (first | (go_simp; go_at_call 99; (with_reducible refine (HWT.out _ _).mono ?_); rintro e w9 ⟨rfl,rfl⟩) | (go_simp; go_at_call 99; (with_reducible refine (HWF.out _ _).mono ?_); rintro e w9 ⟨rfl,rfl⟩) | (go_simp; go_at_call 98; (first | (with_reducible refine HF2.out.1.mono ?_) | (with_reducible refine HF2.out.2.mono ?_)); rintro e w9 ⟨rfl,rfl⟩))
  all_goals
   go_wp2_with fail
   go_meet
   exact fB_
 case rest =>
  obtain ⟨rfl,hbc⟩ := hcut
  have A2 := hQ_ (A1.out.below HS.out hbc)
  have X2 := hQ_ (X1.out.below hbc)
  skip
  have f2_X0 := cC7 X2.out
  clear hbc f1_X0
  go_wp2_with fail
  refine (HFJ.out _ _ _ _ A2.out.rep (Aft.sm0 C1.out.1) (lim_aft C1.out.1 HL.out (by omega) (by omega)) (by have := C1.out.1.rd; omega) (HX.out.at_ A2.out).1).mono ?_
  rintro e w3 ⟨s3,S3,D3,rfl,hr,st,hsm,hrd,hrg⟩
  have C3 := hQ_ (aftF C1.out hsm hrd hrg)
  have Y3 := hQ_ (Blk.new_ w3 #[.int .u32 yd,.string yn,.int .u32 yi,.int .u8 yk,.int .u32 yl,.int .u32 yz,.int .u32 yp] 150)
  have hbn := bX_ Y3.out
  have AQ := A2.out.step HS.out hr st
  have A3 := hQ_ (AQ.own HS.out hbn (Nat.le_refl w3.heap.size) (by simp))
  have X3 := hQ_ ((A2.out.blk HS.out X2.out (.inr rfl) st).below hbn)
  have f3_X0 := cC7 X3.out
  have f3_Y0 := cC7 Y3.out
  clear hr st hsm hrd hrg hbn AQ f2_X0
  have FE4 : fst_ [0,0] = 0 := rfl
  have HF4 := hQ_ (first_2b (0) (0) (w3.alloc (.cells #[.int .u32 yd,.string yn,.int .u32 yi,.int .u8 yk,.int .u32 yl,.int .u32 yz,.int .u32 yp] 150)) (w3.heap.size + 1) (by simp))
  rw [FE4] at HF4
  clear FE4
  go_upto_region 6 with (fail)
  go_cut [11] (fun p wx => p = .int .i64 (0) ∧ BL_ (w3.alloc (.cells #[.int .u32 yd,.string yn,.int .u32 yi,.int .u8 yk,.int .u32 yl,.int .u32 yz,.int .u32 yp] 150)) wx)
  case first =>
   go_wp2_with (first | (go_at_call 99; (with_reducible refine (HWT.out _ _).mono ?_); rintro e w9 ⟨rfl,rfl⟩) | (go_at_call 99; (with_reducible refine (HWF.out _ _).mono ?_); rintro e w9 ⟨rfl,rfl⟩) | (go_at_call 98; (with_reducible refine HF4.out.1.mono ?_); rintro e w9 ⟨rfl,rfl⟩))
   all_goals
    go_meet
    exact fB_
  case rest =>
   obtain ⟨rfl,hbc⟩ := hcut
   have A4 := hQ_ (A3.out.below HS.out hbc)
   have X4 := hQ_ (X3.out.below hbc)
   have Y4 := hQ_ (Y3.out.below hbc)
   skip
   have f4_X0 := cC7 X4.out
   have f4_Y0 := cC7 Y4.out
   clear hbc f3_X0 f3_Y0
   go_wp2_with fail
   refine (HWI.out _ (HX.out.at_ A4.out).1).mono ?_
   rw [HUN.out]
   rintro e w5 ⟨rfl,hbn⟩
   have A5 := hQ_ (A4.out.below HS.out hbn)
   have X5 := hQ_ (X4.out.below hbn)
   have Y5 := hQ_ (Y4.out.below hbn)
   have f5_X0 := cC7 X5.out
   have f5_Y0 := cC7 Y5.out
   clear hbn f4_X0 f4_Y0
   go_wp2_with fail
   refine (HRC.out _ _ _ _ A5.out.rep (Aft.sm0 C3.out.1) (lim_aft C3.out.1 HL.out (by omega) (by omega)) (by have := C3.out.1.rd; omega) (by have := C3.out.1.rg; omega)).mono ?_
   intro e w6 hh
   rcases Ans.split hh with ⟨s6,S6,D6,rfl,ho,hr,st,ha⟩ | ⟨s6,S6,D6,rfl,ho,hr,st,ha⟩
   ·have C6 := hQ_ (Aft.thru C3.out (And.intro ha ho))
    clear ha ho
    have A6 := hQ_ (A5.out.step HS.out hr st)
    have X6 := hQ_ (A5.out.blk HS.out X5.out (.inl (.inr rfl)) st)
    have Y6 := hQ_ (A5.out.blk HS.out Y5.out (.inr rfl) st)
    have f6_X0 := cC7 X6.out
    have f6_Y0 := cC7 Y6.out
    clear st hr f5_X0 f5_Y0
    go_wp2_with fail
    refine (HMV.out _ _ _ _ A6.out.rep (lim_aft C6.out.1 HL.out (by omega) (by omega)) (by have := C6.out.1.rd; omega) (by have := C6.out.1.rg; omega)).mono ?_
    intro e w7 hh
    rcases Wrote.split hh with ⟨s7,S7,D7,rfl,ho,hr,st,ha⟩ | ⟨s7,S7,D7,rfl,ho,hr,st,ha⟩
    ·have A7 := hQ_ (A6.out.step HS.out hr st)
     obtain ⟨z1,z2⟩ := C6.out.1.app C6.out.2 ha
     have C7 := hQ_ (And.intro z1 (z2.trans ho))
     clear hr st ha ho z1 z2
     go_wp2_with (go_at_call 104; refine (HRO.out _ _).mono ?_; rintro e w9 ⟨rfl,rfl⟩)
     go_ret
     exact Ans.ok A7.out ⟨C7.out.1.more (by omega) (by omega),C7.out.2⟩
    ·have A7 := hQ_ (A6.out.step HS.out hr st)
     obtain ⟨z1,z2⟩ := C6.out.1.app C6.out.2 ha
     have C7 := hQ_ (And.intro z1 (z2.trans ho))
     clear hr st ha ho z1 z2
     go_wp2_with (go_at_call 104; refine (HRO.out _ _).mono ?_; rintro e w9 ⟨rfl,rfl⟩)
     go_ret
     exact Ans.full A7.out ⟨C7.out.1.more (by omega) (by omega),C7.out.2⟩
   ·have A6 := hQ_ (A5.out.step HS.out hr st)
    have C6 := hQ_ (Aft.thru C3.out (And.intro ha ho))
    clear hr st ha ho
    go_wp2_with fail
    go_ret
    exact Ans.full A6.out ⟨(Aft.stop (qs := mv) C6.out.1 C6.out.2).1.more (by omega) (by omega),(Aft.stop (qs := mv) C6.out.1 C6.out.2).2⟩
theorem ren_rep_f (hW0 : Wk Rep) (hRn : RangeN Rep) {w : World} {v : Value} {s : Vs} {S D : Nat → Prop} (old path : ByteArray) {xd xi xk xl xz xp er : Int} {xn : ByteArray} {yd yi yk yl yz yp er2 : Int} {yn : ByteArray} (hr : Rep w v s S D) (hl : Lim s) (h2 : s.rd.length ≤ 18000) (h3 : s.rg.length ≤ 900) (hx : Mxs w S) (hp : old.size ≤ 100000) (hp2 : path.size ≤ 100000) (hR : findM s.shown old = (⟨xd,xn,xi,⟨xk,xl,xz,xp⟩⟩,er)) (hR2 : findM s.shown path = (⟨yd,yn,yi,⟨yk,yl,yz,yp⟩⟩,er2)) (he : er = 0) (h0 : xi ≠ 0) (h1 : xi ≠ 1) (he2 : er2 = 0) (h3 : yi ≠ 1) (h4 : xi ≠ yi) (hk : ∀ p ∈ s.shown,(sp p.key).letter ≠ 0) (h5 : xk ≠ 2) {rx : Int} {ps : List Wrt} (hrx : clrB s.shown ⟨yd,yn,yi,⟨yk,yl,yz,yp⟩⟩ false = (rx,ps)) (hx0 : rx ≠ 0) :
 Calls Tryz.prog 85 #[v,.string old,.string path] w (Ans Rep v s rx [] 84 1 S D w) := by
 have A0 := hQ_ (At.start hr)
 have HX := hQ_ hx
 have HS := hQ_ hW0.stays
 have HL := hQ_ hl
 have C0 := hQ_ (aft0 s)
 have HWT := hQ_ when_t
 have HWF := hQ_ when_f
 have HFI := hQ_ (fun w (S D : Nat → Prop) (t : Vs) (hr : Rep w v t S D) (hsm : Sm t s) hl h2 hx => find_c hW0 old hR hr hsm hl h2 hp hx)
 unfold FndC at HFI
 have hsbx := find_bd s.shown old
 have hibx := find_ib s.shown old
 rw [hR] at hsbx hibx
 obtain ⟨x0,x1,x2,x3,x4⟩ := hsbx
 dsimp only at x0 x1 x2 x3 x4 HFI hibx
 have HFJ := hQ_ (fun w (S D : Nat → Prop) (t : Vs) (hr : Rep w v t S D) (hsm : Sm t s) hl h2 hx => find_c hW0 path hR2 hr hsm hl h2 hp2 hx)
 unfold FndC at HFJ
 have hsby := find_bd s.shown path
 have hiby := find_ib s.shown path
 rw [hR2] at hsby hiby
 obtain ⟨y0,y1,y2,y3,y4⟩ := hsby
 dsimp only at y0 y1 y2 y3 y4 HFJ hiby
 have hps : ps = [] := by
  have h := clrB_err (L := s.shown) (x := ⟨yd,yn,yi,⟨yk,yl,yz,yp⟩⟩) (d := false) (by rw [hrx]; exact hx0)
  rw [hrx] at h
  exact h
 subst hps
 subst he
 have d1 : (xi == 1) = false := by simpa using h1
 have d2 : (xi == 0) = false := by simpa using h0
 subst he2
 have d4 : (yi == 1) = false := by simpa using h3
 have d5 : (xi == yi) = false := by simpa using h4
 have d6 : (xk == 2) = false := by simpa using h5
 have HRC := hQ_ (fun w (S D : Nat → Prop) (t : Vs) (hr : Rep w v t S D) (hsm : Sm t s) (hl : Lim t) (h2 : t.rd.length ≤ 19900) (h3 : t.rg.length ≤ 985) => show Calls _ _ _ _ (Ans Rep v t (clrB s.shown ⟨yd,yn,yi,⟨yk,yl,yz,yp⟩⟩ false).1 (clrB s.shown ⟨yd,yn,yi,⟨yk,yl,yz,yp⟩⟩ false).2 1 1 S D w) by have h := DirsBd.replace_calls hW0 hRn yd yi yk yl yz yp xk yn hr hl h2 h3 y0 y1 y2 y3 y4 hiby (by rw [hsm.shown]; exact hk); rw [hsm.shown,decide_eq_false h5] at h; exact h)
 rw [hrx] at HRC
 dsimp only at HRC
 have d7 : (rx != 0) = true := by simpa using hx0
 clear hr hl hp hp2 hR hW0 hR2 hx h0 h1 h3 h4 h5 hk hrx hx0
 go_enter Tryz.func85,Tryz.ntmps85
 go_wp2_with fail
 refine (HFI.out _ _ _ _ A0.out.rep (Aft.sm0 C0.out.1) (lim_aft C0.out.1 HL.out (by omega) (by omega)) (by have := C0.out.1.rd; omega) (HX.out.at_ A0.out).1).mono ?_
 rintro e w1 ⟨s1,S1,D1,rfl,hr,st,hsm,hrd,hrg⟩
 have C1 := hQ_ (aftF C0.out hsm hrd hrg)
 have X1 := hQ_ (Blk.new_ w1 #[.int .u32 xd,.string xn,.int .u32 xi,.int .u8 xk,.int .u32 xl,.int .u32 xz,.int .u32 xp] 150)
 have hbn := bX_ X1.out
 have AQ := A0.out.step HS.out hr st
 have A1 := hQ_ (AQ.own HS.out hbn (Nat.le_refl w1.heap.size) (by simp))
 have f1_X0 := cC7 X1.out
 clear hr st hsm hrd hrg hbn AQ
 have FE2 : fst_ [0,0,0] = 0 := rfl
 have HF2 := hQ_ (first_3b (0) (0) (0) (w1.alloc (.cells #[.int .u32 xd,.string xn,.int .u32 xi,.int .u8 xk,.int .u32 xl,.int .u32 xz,.int .u32 xp] 150)) (w1.heap.size + 1) (by simp))
 rw [FE2] at HF2
 clear FE2
 go_upto_region 2 with (fail)
 go_cut [9] (fun p wx => p = .int .i64 (0) ∧ BL_ (w1.alloc (.cells #[.int .u32 xd,.string xn,.int .u32 xi,.int .u8 xk,.int .u32 xl,.int .u32 xz,.int .u32 xp] 150)) wx)
 case first =>
  go_region_law (first | (go_simp; go_at_call 99; (with_reducible refine (HWT.out _ _).mono ?_); rintro e w9 ⟨rfl,rfl⟩) | (go_simp; go_at_call 99; (with_reducible refine (HWF.out _ _).mono ?_); rintro e w9 ⟨rfl,rfl⟩) | (go_simp; go_at_call 98; (first | (with_reducible refine HF2.out.1.mono ?_) | (with_reducible refine HF2.out.2.mono ?_)); rintro e w9 ⟨rfl,rfl⟩))
  all_goals
   go_wp2_with fail
   go_meet
   exact fB_
 case rest =>
  obtain ⟨rfl,hbc⟩ := hcut
  have A2 := hQ_ (A1.out.below HS.out hbc)
  have X2 := hQ_ (X1.out.below hbc)
  skip
  have f2_X0 := cC7 X2.out
  clear hbc f1_X0
  go_wp2_with fail
  refine (HFJ.out _ _ _ _ A2.out.rep (Aft.sm0 C1.out.1) (lim_aft C1.out.1 HL.out (by omega) (by omega)) (by have := C1.out.1.rd; omega) (HX.out.at_ A2.out).1).mono ?_
  rintro e w3 ⟨s3,S3,D3,rfl,hr,st,hsm,hrd,hrg⟩
  have C3 := hQ_ (aftF C1.out hsm hrd hrg)
  have Y3 := hQ_ (Blk.new_ w3 #[.int .u32 yd,.string yn,.int .u32 yi,.int .u8 yk,.int .u32 yl,.int .u32 yz,.int .u32 yp] 150)
  have hbn := bX_ Y3.out
  have AQ := A2.out.step HS.out hr st
  have A3 := hQ_ (AQ.own HS.out hbn (Nat.le_refl w3.heap.size) (by simp))
  have X3 := hQ_ ((A2.out.blk HS.out X2.out (.inr rfl) st).below hbn)
  have f3_X0 := cC7 X3.out
  have f3_Y0 := cC7 Y3.out
  clear hr st hsm hrd hrg hbn AQ f2_X0
  have FE4 : fst_ [0,0] = 0 := rfl
  have HF4 := hQ_ (first_2b (0) (0) (w3.alloc (.cells #[.int .u32 yd,.string yn,.int .u32 yi,.int .u8 yk,.int .u32 yl,.int .u32 yz,.int .u32 yp] 150)) (w3.heap.size + 1) (by simp))
  rw [FE4] at HF4
  clear FE4
  go_upto_region 6 with (fail)
  go_cut [11] (fun p wx => p = .int .i64 (0) ∧ BL_ (w3.alloc (.cells #[.int .u32 yd,.string yn,.int .u32 yi,.int .u8 yk,.int .u32 yl,.int .u32 yz,.int .u32 yp] 150)) wx)
  case first =>
   go_wp2_with (first | (go_at_call 99; (with_reducible refine (HWT.out _ _).mono ?_); rintro e w9 ⟨rfl,rfl⟩) | (go_at_call 99; (with_reducible refine (HWF.out _ _).mono ?_); rintro e w9 ⟨rfl,rfl⟩) | (go_at_call 98; (with_reducible refine HF4.out.1.mono ?_); rintro e w9 ⟨rfl,rfl⟩))
   all_goals
    go_meet
    exact fB_
  case rest =>
   obtain ⟨rfl,hbc⟩ := hcut
   have A4 := hQ_ (A3.out.below HS.out hbc)
   have X4 := hQ_ (X3.out.below hbc)
   have Y4 := hQ_ (Y3.out.below hbc)
   skip
   have f4_X0 := cC7 X4.out
   have f4_Y0 := cC7 Y4.out
   clear hbc f3_X0 f3_Y0
   go_wp2_with fail
   refine (HRC.out _ _ _ _ A4.out.rep (Aft.sm0 C3.out.1) (lim_aft C3.out.1 HL.out (by omega) (by omega)) (by have := C3.out.1.rd; omega) (by have := C3.out.1.rg; omega)).mono ?_
   intro e w5 hh
   rcases Ans.split hh with ⟨s5,S5,D5,rfl,ho,hr,st,ha⟩ | ⟨s5,S5,D5,rfl,ho,hr,st,ha⟩
   ·have A5 := hQ_ (A4.out.step HS.out hr st)
    have C5 := hQ_ (Aft.thru C3.out (And.intro ha ho))
    clear hr st ha ho
    go_wp2_with fail
    go_ret
    exact Ans.ok A5.out ⟨C5.out.1.more (by omega) (by omega),C5.out.2⟩
   ·have A5 := hQ_ (A4.out.step HS.out hr st)
    have C5 := hQ_ (Aft.thru C3.out (And.intro ha ho))
    clear hr st ha ho
    go_wp2_with fail
    go_ret
    exact Ans.full A5.out ⟨C5.out.1.more (by omega) (by omega),C5.out.2⟩
theorem ren_do_f (hW0 : Wk Rep) (hRn : RangeN Rep) {w : World} {v : Value} {s : Vs} {S D : Nat → Prop} (old path : ByteArray) {xd xi xk xl xz xp er : Int} {xn : ByteArray} {yd yi yk yl yz yp er2 : Int} {yn : ByteArray} (hr : Rep w v s S D) (hl : Lim s) (h2 : s.rd.length ≤ 18000) (h3 : s.rg.length ≤ 900) (hx : Mxs w S) (hp : old.size ≤ 100000) (hp2 : path.size ≤ 100000) (hR : findM s.shown old = (⟨xd,xn,xi,⟨xk,xl,xz,xp⟩⟩,er)) (hR2 : findM s.shown path = (⟨yd,yn,yi,⟨yk,yl,yz,yp⟩⟩,er2)) (he : er = 0) (h0 : xi ≠ 0) (h1 : xi ≠ 1) (he2 : er2 = 0) (h3 : yi ≠ 1) (h4 : xi ≠ yi) (hk : ∀ p ∈ s.shown,(sp p.key).letter ≠ 0) (h5 : xk ≠ 2) {ps : List Wrt} (hrx : clrB s.shown ⟨yd,yn,yi,⟨yk,yl,yz,yp⟩⟩ false = (0,ps)) :
 Calls Tryz.prog 85 #[v,.string old,.string path] w (Ans Rep v s 0 (ps ++ movPs ⟨xd,xn,xi,⟨xk,xl,xz,xp⟩⟩ ⟨yd,yn,yi,⟨yk,yl,yz,yp⟩⟩) 84 1 S D w) := by
 have A0 := hQ_ (At.start hr)
 have HX := hQ_ hx
 have HS := hQ_ hW0.stays
 have HL := hQ_ hl
 have HRO := hQ_ room_calls
 have C0 := hQ_ (aft0 s)
 have HWT := hQ_ when_t
 have HWF := hQ_ when_f
 have HFI := hQ_ (fun w (S D : Nat → Prop) (t : Vs) (hr : Rep w v t S D) (hsm : Sm t s) hl h2 hx => find_c hW0 old hR hr hsm hl h2 hp hx)
 unfold FndC at HFI
 have hsbx := find_bd s.shown old
 have hibx := find_ib s.shown old
 rw [hR] at hsbx hibx
 obtain ⟨x0,x1,x2,x3,x4⟩ := hsbx
 dsimp only at x0 x1 x2 x3 x4 HFI hibx
 have HFJ := hQ_ (fun w (S D : Nat → Prop) (t : Vs) (hr : Rep w v t S D) (hsm : Sm t s) hl h2 hx => find_c hW0 path hR2 hr hsm hl h2 hp2 hx)
 unfold FndC at HFJ
 have hsby := find_bd s.shown path
 have hiby := find_ib s.shown path
 rw [hR2] at hsby hiby
 obtain ⟨y0,y1,y2,y3,y4⟩ := hsby
 dsimp only at y0 y1 y2 y3 y4 HFJ hiby
 have HMV := hQ_ (fun w (S D : Nat → Prop) (t : Vs) (hr : Rep w v t S D) hl h2 h3 => move_calls hW0 xd xi xk xl xz xp xn yd yi yk yl yz yp yn (s := t) (w := w) (S := S) (D := D) (v := v) hr hl h2 h3 x0 x1 x2 x3 (by omega) y0 y1 y2 y3 (by omega))
 obtain ⟨mv,hmv⟩ : ∃ mv,movPs ⟨xd,xn,xi,⟨xk,xl,xz,xp⟩⟩ ⟨yd,yn,yi,⟨yk,yl,yz,yp⟩⟩ = mv := ⟨_,rfl⟩
 rw [hmv] at HMV ⊢
 subst he
 have d1 : (xi == 1) = false := by simpa using h1
 have d2 : (xi == 0) = false := by simpa using h0
 subst he2
 have d4 : (yi == 1) = false := by simpa using h3
 have d5 : (xi == yi) = false := by simpa using h4
 have d6 : (xk == 2) = false := by simpa using h5
 have HRC := hQ_ (fun w (S D : Nat → Prop) (t : Vs) (hr : Rep w v t S D) (hsm : Sm t s) (hl : Lim t) (h2 : t.rd.length ≤ 19900) (h3 : t.rg.length ≤ 985) => show Calls _ _ _ _ (Ans Rep v t (clrB s.shown ⟨yd,yn,yi,⟨yk,yl,yz,yp⟩⟩ false).1 (clrB s.shown ⟨yd,yn,yi,⟨yk,yl,yz,yp⟩⟩ false).2 1 1 S D w) by have h := DirsBd.replace_calls hW0 hRn yd yi yk yl yz yp xk yn hr hl h2 h3 y0 y1 y2 y3 y4 hiby (by rw [hsm.shown]; exact hk); rw [hsm.shown,decide_eq_false h5] at h; exact h)
 rw [hrx] at HRC
 dsimp only at HRC
 clear hr hl hp hp2 hR hW0 hR2 hx h0 h1 h3 h4 h5 hk hrx hmv
 go_enter Tryz.func85,Tryz.ntmps85
 go_wp2_with fail
 refine (HFI.out _ _ _ _ A0.out.rep (Aft.sm0 C0.out.1) (lim_aft C0.out.1 HL.out (by omega) (by omega)) (by have := C0.out.1.rd; omega) (HX.out.at_ A0.out).1).mono ?_
 rintro e w1 ⟨s1,S1,D1,rfl,hr,st,hsm,hrd,hrg⟩
 have C1 := hQ_ (aftF C0.out hsm hrd hrg)
 have X1 := hQ_ (Blk.new_ w1 #[.int .u32 xd,.string xn,.int .u32 xi,.int .u8 xk,.int .u32 xl,.int .u32 xz,.int .u32 xp] 150)
 have hbn := bX_ X1.out
 have AQ := A0.out.step HS.out hr st
 have A1 := hQ_ (AQ.own HS.out hbn (Nat.le_refl w1.heap.size) (by simp))
 have f1_X0 := cC7 X1.out
 clear hr st hsm hrd hrg hbn AQ
 have FE2 : fst_ [0,0,0] = 0 := rfl
 have HF2 := hQ_ (first_3b (0) (0) (0) (w1.alloc (.cells #[.int .u32 xd,.string xn,.int .u32 xi,.int .u8 xk,.int .u32 xl,.int .u32 xz,.int .u32 xp] 150)) (w1.heap.size + 1) (by simp))
 rw [FE2] at HF2
 clear FE2
 go_upto_region 2 with (fail)
 go_cut [9] (fun p wx => p = .int .i64 (0) ∧ BL_ (w1.alloc (.cells #[.int .u32 xd,.string xn,.int .u32 xi,.int .u8 xk,.int .u32 xl,.int .u32 xz,.int .u32 xp] 150)) wx)
 case first =>
  go_region_law (first | (go_simp; go_at_call 99; (with_reducible refine (HWT.out _ _).mono ?_); rintro e w9 ⟨rfl,rfl⟩) | (go_simp; go_at_call 99; (with_reducible refine (HWF.out _ _).mono ?_); rintro e w9 ⟨rfl,rfl⟩) | (go_simp; go_at_call 98; (first | (with_reducible refine HF2.out.1.mono ?_) | (with_reducible refine HF2.out.2.mono ?_)); rintro e w9 ⟨rfl,rfl⟩))
  all_goals
   go_wp2_with fail
   go_meet
   exact fB_
 case rest =>
  obtain ⟨rfl,hbc⟩ := hcut
  have A2 := hQ_ (A1.out.below HS.out hbc)
  have X2 := hQ_ (X1.out.below hbc)
  skip
  have f2_X0 := cC7 X2.out
  clear hbc f1_X0
  go_wp2_with fail
  refine (HFJ.out _ _ _ _ A2.out.rep (Aft.sm0 C1.out.1) (lim_aft C1.out.1 HL.out (by omega) (by omega)) (by have := C1.out.1.rd; omega) (HX.out.at_ A2.out).1).mono ?_
  rintro e w3 ⟨s3,S3,D3,rfl,hr,st,hsm,hrd,hrg⟩
  have C3 := hQ_ (aftF C1.out hsm hrd hrg)
  have Y3 := hQ_ (Blk.new_ w3 #[.int .u32 yd,.string yn,.int .u32 yi,.int .u8 yk,.int .u32 yl,.int .u32 yz,.int .u32 yp] 150)
  have hbn := bX_ Y3.out
  have AQ := A2.out.step HS.out hr st
  have A3 := hQ_ (AQ.own HS.out hbn (Nat.le_refl w3.heap.size) (by simp))
  have X3 := hQ_ ((A2.out.blk HS.out X2.out (.inr rfl) st).below hbn)
  have f3_X0 := cC7 X3.out
  have f3_Y0 := cC7 Y3.out
  clear hr st hsm hrd hrg hbn AQ f2_X0
  have FE4 : fst_ [0,0] = 0 := rfl
  have HF4 := hQ_ (first_2b (0) (0) (w3.alloc (.cells #[.int .u32 yd,.string yn,.int .u32 yi,.int .u8 yk,.int .u32 yl,.int .u32 yz,.int .u32 yp] 150)) (w3.heap.size + 1) (by simp))
  rw [FE4] at HF4
  clear FE4
  go_upto_region 6 with (fail)
  go_cut [11] (fun p wx => p = .int .i64 (0) ∧ BL_ (w3.alloc (.cells #[.int .u32 yd,.string yn,.int .u32 yi,.int .u8 yk,.int .u32 yl,.int .u32 yz,.int .u32 yp] 150)) wx)
  case first =>
   go_wp2_with (first | (go_at_call 99; (with_reducible refine (HWT.out _ _).mono ?_); rintro e w9 ⟨rfl,rfl⟩) | (go_at_call 99; (with_reducible refine (HWF.out _ _).mono ?_); rintro e w9 ⟨rfl,rfl⟩) | (go_at_call 98; (with_reducible refine HF4.out.1.mono ?_); rintro e w9 ⟨rfl,rfl⟩))
   all_goals
    go_meet
    exact fB_
  case rest =>
   obtain ⟨rfl,hbc⟩ := hcut
   have A4 := hQ_ (A3.out.below HS.out hbc)
   have X4 := hQ_ (X3.out.below hbc)
   have Y4 := hQ_ (Y3.out.below hbc)
   skip
   have f4_X0 := cC7 X4.out
   have f4_Y0 := cC7 Y4.out
   clear hbc f3_X0 f3_Y0
   go_wp2_with fail
   refine (HRC.out _ _ _ _ A4.out.rep (Aft.sm0 C3.out.1) (lim_aft C3.out.1 HL.out (by omega) (by omega)) (by have := C3.out.1.rd; omega) (by have := C3.out.1.rg; omega)).mono ?_
   intro e w5 hh
   rcases Ans.split hh with ⟨s5,S5,D5,rfl,ho,hr,st,ha⟩ | ⟨s5,S5,D5,rfl,ho,hr,st,ha⟩
   ·have C5 := hQ_ (Aft.thru C3.out (And.intro ha ho))
    clear ha ho
    have A5 := hQ_ (A4.out.step HS.out hr st)
    have X5 := hQ_ (A4.out.blk HS.out X4.out (.inl (.inr rfl)) st)
    have Y5 := hQ_ (A4.out.blk HS.out Y4.out (.inr rfl) st)
    have f5_X0 := cC7 X5.out
    have f5_Y0 := cC7 Y5.out
    clear st hr f4_X0 f4_Y0
    go_wp2_with fail
    refine (HMV.out _ _ _ _ A5.out.rep (lim_aft C5.out.1 HL.out (by omega) (by omega)) (by have := C5.out.1.rd; omega) (by have := C5.out.1.rg; omega)).mono ?_
    intro e w6 hh
    rcases Wrote.split hh with ⟨s6,S6,D6,rfl,ho,hr,st,ha⟩ | ⟨s6,S6,D6,rfl,ho,hr,st,ha⟩
    ·have A6 := hQ_ (A5.out.step HS.out hr st)
     obtain ⟨z1,z2⟩ := C5.out.1.app C5.out.2 ha
     have C6 := hQ_ (And.intro z1 (z2.trans ho))
     clear hr st ha ho z1 z2
     go_wp2_with (go_at_call 104; refine (HRO.out _ _).mono ?_; rintro e w9 ⟨rfl,rfl⟩)
     go_ret
     exact Ans.ok A6.out ⟨C6.out.1.more (by omega) (by omega),C6.out.2⟩
    ·have A6 := hQ_ (A5.out.step HS.out hr st)
     obtain ⟨z1,z2⟩ := C5.out.1.app C5.out.2 ha
     have C6 := hQ_ (And.intro z1 (z2.trans ho))
     clear hr st ha ho z1 z2
     go_wp2_with (go_at_call 104; refine (HRO.out _ _).mono ?_; rintro e w9 ⟨rfl,rfl⟩)
     go_ret
     exact Ans.full A6.out ⟨C6.out.1.more (by omega) (by omega),C6.out.2⟩
   ·have A5 := hQ_ (A4.out.step HS.out hr st)
    have C5 := hQ_ (Aft.thru C3.out (And.intro ha ho))
    clear hr st ha ho
    go_wp2_with fail
    go_ret
    exact Ans.full A5.out ⟨(Aft.stop (qs := mv) C5.out.1 C5.out.2).1.more (by omega) (by omega),(Aft.stop (qs := mv) C5.out.1 C5.out.2).2⟩
theorem ren_calls (hW0 : Wk Rep) (hRn : RangeN Rep) {w : World} {v : Value} {s : Vs} {S D : Nat → Prop} (old path : ByteArray) (hr : Rep w v s S D) (hl : Lim s) (h2 : s.rd.length ≤ 18000) (h3 : s.rg.length ≤ 900) (hx : Mxs w S) (hp : old.size ≤ 100000) (hp2 : path.size ≤ 100000) (hk : ∀ p ∈ s.shown,(sp p.key).letter ≠ 0) :
 Calls Tryz.prog 85 #[v,.string old,.string path] w (Ans Rep v s (renB s.shown old path).1 (renB s.shown old path).2 84 1 S D w) := by
 obtain ⟨⟨⟨xd,xn,xi,⟨xk,xl,xz,xp⟩⟩,er⟩,hR⟩ : ∃ R,findM s.shown old = R := ⟨_,rfl⟩
 obtain ⟨⟨⟨yd,yn,yi,⟨yk,yl,yz,yp⟩⟩,er2⟩,hR2⟩ : ∃ R,findM s.shown path = R := ⟨_,rfl⟩
 unfold renB
 have h := hR
 have h' := hR2
 rw [hR,hR2]
 dsimp only
 by_cases he : er = 0
 ·rw [if_neg (fun h => h he)]
  by_cases h1 : xi = 1
  ·rw [if_pos h1]
   exact ren_root hW0 hRn old path hr hl h2 h3 hx hp hp2 h he h1
  ·rw [if_neg h1]
   by_cases h0 : xi = 0
   ·rw [if_pos h0]
    exact ren_none hW0 hRn old path hr hl h2 h3 hx hp hp2 h he h0
   ·rw [if_neg h0]
    by_cases he2 : er2 = 0
    ·rw [if_neg (fun h => h he2)]
     by_cases h5 : yi = 1
     ·rw [if_pos h5]
      exact ren_root2 hW0 hRn old path hr hl h2 h3 hx hp hp2 h h' he h0 h1 he2 h5
     ·rw [if_neg h5]
      by_cases h4 : xi = yi
      ·rw [if_pos h4]
       exact ren_same hW0 hRn old path hr hl h2 h3 hx hp hp2 h h' he h0 h1 he2 h5 h4
      ·rw [if_neg h4]
       by_cases h6 : xk = 2
       ·by_cases hu : under (spl old).1 (spl path).1 = true
        ·rw [if_pos ⟨h6,hu⟩]
         exact ren_into hW0 hRn old path hr hl h2 h3 hx hp hp2 h h' he h0 h1 he2 h5 h4 h6 hu
        ·rw [if_neg (fun h => hu h.2),decide_eq_true h6]
         obtain ⟨⟨rx,ps⟩,hrx⟩ : ∃ r,clrB s.shown ⟨yd,yn,yi,⟨yk,yl,yz,yp⟩⟩ true = r := ⟨_,rfl⟩
         have hrx' := hrx
         rw [hrx]
         dsimp only
         by_cases hx0 : rx = 0
         ·rw [if_neg (fun h => h hx0)]
          subst hx0
          exact ren_do_t hW0 hRn old path hr hl h2 h3 hx hp hp2 h h' he h0 h1 he2 h5 h4 hk h6 (Bool.eq_false_iff.2 hu) hrx'
         ·rw [if_pos hx0]
          exact ren_rep_t hW0 hRn old path hr hl h2 h3 hx hp hp2 h h' he h0 h1 he2 h5 h4 hk h6 (Bool.eq_false_iff.2 hu) hrx' hx0
       ·rw [if_neg (fun h => h6 h.1),decide_eq_false h6]
        obtain ⟨⟨rx,ps⟩,hrx⟩ : ∃ r,clrB s.shown ⟨yd,yn,yi,⟨yk,yl,yz,yp⟩⟩ false = r := ⟨_,rfl⟩
        have hrx' := hrx
        rw [hrx]
        dsimp only
        by_cases hx0 : rx = 0
        ·rw [if_neg (fun h => h hx0)]
         subst hx0
         exact ren_do_f hW0 hRn old path hr hl h2 h3 hx hp hp2 h h' he h0 h1 he2 h5 h4 hk h6 hrx'
        ·rw [if_pos hx0]
         exact ren_rep_f hW0 hRn old path hr hl h2 h3 hx hp hp2 h h' he h0 h1 he2 h5 h4 hk h6 hrx' hx0
    ·rw [if_pos he2]
     by_cases h5 : yi = 1
     ·exact ren_err2_1 hW0 hRn old path hr hl h2 h3 hx hp hp2 h h' he h0 h1 he2 h5
     ·exact ren_err2_0 hW0 hRn old path hr hl h2 h3 hx hp hp2 h h' he h0 h1 he2 h5
 ·rw [if_pos he]
  exact ren_err hW0 hRn old path hr hl h2 h3 hx hp hp2 h he
end Go.Proofs.YtogdjbhjgbnicaaGreatDoor.DirsBh