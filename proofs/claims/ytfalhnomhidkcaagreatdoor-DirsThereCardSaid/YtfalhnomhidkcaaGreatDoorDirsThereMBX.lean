import Derived.Deep.DeepCutAuto
import Derived.Deep.CutBlock
import Derived.Test.YtfalhnomhidkcaaGreatDoorSq
import Derived.Test.YtfalhnomhidkcaaGreatDoorDirsThereMBW
import Derived.Test.YtfalhnomhidkcaaGreatDoorDirsThereMBN
set_option maxHeartbeats 16000000
set_option linter.unusedVariables false
set_option linter.unusedSimpArgs false
set_option maxRecDepth 100000
namespace Go.Proofs.YtfalhnomhidkcaaGreatDoor.DirsKg
open Go.RowKit
open Byte KeysM TreeM ViewM ViewKm NodeM NodeG NamesM NamesL WalkM WalkF WalkKm DirsV Lst Chg TreeL ViewL WalkL WalkV Vat WalkKa WalkKb DirsK DirsKa DirsKb DirsKc DirsKd
open Own hiding keeps
variable {Rep : RepT} {w : World} {v : Value} {s : Vs} {S D : Nat → Prop}
theorem first_2g (a b : Int) (w : World) (g : Nat) (hg : w.heap.size = g) : Calls Tryz.prog 71 #[.slice (some ⟨g,0,none⟩) 2 2] (w.alloc (.cells #[.int .i64 a,.int .i64 b] 66)) fun e w' => e = .returned (.int .i64 (fst_ [a,b])) ∧ (w.alloc (.cells #[.int .i64 a,.int .i64 b] 66)) = w' := by
 subst hg
 exact first_2 a b w
theorem first_3g (a b c : Int) (w : World) (g : Nat) (hg : w.heap.size = g) : Calls Tryz.prog 71 #[.slice (some ⟨g,0,none⟩) 3 3] (w.alloc (.cells #[.int .i64 a,.int .i64 b,.int .i64 c] 66)) fun e w' => e = .returned (.int .i64 (fst_ [a,b,c])) ∧ (w.alloc (.cells #[.int .i64 a,.int .i64 b,.int .i64 c] 66)) = w' := by
 subst hg
 exact first_3 a b c w
theorem first_2d (a b : Int) (w : World) (g : Nat) (hg : w.heap.size = g) : Calls Tryz.prog 71 #[.slice (some ⟨g,0,none⟩) 2 2] (w.alloc (.cells #[.int .i64 a,.int .i64 b] 66)).drew fun e w' => e = .returned (.int .i64 (fst_ [a,b])) ∧ (w.alloc (.cells #[.int .i64 a,.int .i64 b] 66)).drew = w' := by
 subst hg
 exact first_calls _ 2 2 [a,b] _ ((So.lit erE 66 w (base := w.heap.size) [a,b] #[.int .i64 a,.int .i64 b] 2 rfl rfl (Nat.le_refl _) (by decide)).sl.below ((Below.refl _ _).drew)) (by decide)
theorem first_2b (a b : Int) (w : World) (g : Nat) (hg : w.heap.size = g) : (Calls Tryz.prog 71 #[.slice (some ⟨g,0,none⟩) 2 2] (w.alloc (.cells #[.int .i64 a,.int .i64 b] 66)) fun e w' => e = .returned (.int .i64 (fst_ [a,b])) ∧ (w.alloc (.cells #[.int .i64 a,.int .i64 b] 66)) = w') ∧ (Calls Tryz.prog 71 #[.slice (some ⟨g,0,none⟩) 2 2] (w.alloc (.cells #[.int .i64 a,.int .i64 b] 66)).drew fun e w' => e = .returned (.int .i64 (fst_ [a,b])) ∧ (w.alloc (.cells #[.int .i64 a,.int .i64 b] 66)).drew = w') := ⟨first_2g a b w g hg,first_2d a b w g hg⟩
theorem first_3d (a b c : Int) (w : World) (g : Nat) (hg : w.heap.size = g) : Calls Tryz.prog 71 #[.slice (some ⟨g,0,none⟩) 3 3] (w.alloc (.cells #[.int .i64 a,.int .i64 b,.int .i64 c] 66)).drew fun e w' => e = .returned (.int .i64 (fst_ [a,b,c])) ∧ (w.alloc (.cells #[.int .i64 a,.int .i64 b,.int .i64 c] 66)).drew = w' := by
 subst hg
 exact first_calls _ 3 3 [a,b,c] _ ((So.lit erE 66 w (base := w.heap.size) [a,b,c] #[.int .i64 a,.int .i64 b,.int .i64 c] 3 rfl rfl (Nat.le_refl _) (by decide)).sl.below ((Below.refl _ _).drew)) (by decide)
theorem first_3b (a b c : Int) (w : World) (g : Nat) (hg : w.heap.size = g) : (Calls Tryz.prog 71 #[.slice (some ⟨g,0,none⟩) 3 3] (w.alloc (.cells #[.int .i64 a,.int .i64 b,.int .i64 c] 66)) fun e w' => e = .returned (.int .i64 (fst_ [a,b,c])) ∧ (w.alloc (.cells #[.int .i64 a,.int .i64 b,.int .i64 c] 66)) = w') ∧ (Calls Tryz.prog 71 #[.slice (some ⟨g,0,none⟩) 3 3] (w.alloc (.cells #[.int .i64 a,.int .i64 b,.int .i64 c] 66)).drew fun e w' => e = .returned (.int .i64 (fst_ [a,b,c])) ∧ (w.alloc (.cells #[.int .i64 a,.int .i64 b,.int .i64 c] 66)).drew = w') := ⟨first_3g a b c w g hg,first_3d a b c w g hg⟩
theorem blk_ne {u : World} {a b : Nat} {cs ds : Array Value} {U V : TypeId} (h : Blk u a cs U) (k : Blk u b ds V) (hne : U ≠ V) : a ≠ b := by
 rintro rfl
 unfold Blk at h k
 rw [h] at k
 injection k with k
 injection k with _ k
 exact hne k
def ListA (Rep : RepT) (v : Value) (s : Vs) (r : List ByteArray × Int) (k m : Nat) (S D : Nat → Prop) (w : World) (e : Ending) (w' : World) : Prop := ∃ A n c s' S' D',e = .returned (.tuple #[.slice A n c,.int .i64 r.2]) ∧ Sl Tx.txE w' A n r.1 ∧ Rep w' v s' S' D' ∧ Stp S D S' D' w w' ∧ Aft s s' [] k m
theorem ListA.none_ {v : Value} {s s' : Vs} {er : Int} {k m : Nat} {S D M S' D' : Nat → Prop} {w w' : World} (A : At Rep w S D M w' v s' S' D') (h : Aft s s' [] k m) : ListA Rep v s ([],er) k m S D w (.returned (.tuple #[.slice none 0 0,.int .i64 er])) w' := ⟨none,0,0,s',S',D',rfl,Sl.nil_ _ _ _,A.rep,A.st,h⟩
theorem lst_err (hW0 : Wk Rep) (path : ByteArray) {li lk ll lz lp er : Int} (hr : Rep w v s S D) (hl : Lim s) (h2 : s.rd.length ≤ 18000) (h3 : s.rg.length ≤ 900) (hx : Mxs w S) (hp : path.size ≤ 100000) (hL : leadM s.shown path = (li,⟨lk,ll,lz,lp⟩,er)) (he : er ≠ 0) (hk2 : lk = 0) :
 Calls Tryz.prog 47 #[v,.string path] w (ListA Rep v s ([],er) 40 1 S D w) := by
 have A0 := hQ_ (At.start hr)
 have HX := hQ_ hx
 have HS := hQ_ hW0.stays
 have HL := hQ_ hl
 have C0 := hQ_ (aft0 s)
 have HWT := hQ_ when_t
 have HWF := hQ_ when_f
 have HLE := hQ_ (fun w (S D : Nat → Prop) (t : Vs) (hr : Rep w v t S D) (hsm : Sm t s) hl h2 hx => lead_c hW0 path hL hr hsm hl h2 hp hx)
 unfold LeadC at HLE
 dsimp only at HLE
 have d1 : (lk != 2) = true := by rw [hk2]; rfl
 have d0 : (er != 0) = true := by simpa using he
 clear hr hl hp hL hx hW0 hk2
 go_enter Tryz.func47,Tryz.ntmps47
 go_wp2_with fail
 refine (HLE.out _ _ _ _ A0.out.rep (Aft.sm0 C0.out.1) (lim_aft C0.out.1 HL.out (by omega) (by omega)) (by have := C0.out.1.rd; omega) (HX.out.at_ A0.out)).mono ?_
 rintro e w1 ⟨s1,S1,D1,rfl,hr,st,hsm,hrd,hrg⟩
 have C1 := hQ_ (aftF C0.out hsm hrd hrg)
 have I1 := hQ_ (Blk.new_ w1 #[.int .u8 lk,.int .u32 ll,.int .u32 lz,.int .u32 lp] 59)
 have hbn := bX_ I1.out
 have A1 := hQ_ ((A0.out.step HS.out hr st).own HS.out hbn (Nat.le_refl w1.heap.size) (by simp))
 have f1_I0 := cC4 I1.out
 clear hr st hsm hrd hrg hbn
 have FE2 : fst_ [er,12] = er := by unfold fst_; rw [if_neg he]
 have HF2 := hQ_ (first_2b (er) (12) (w1.alloc (.cells #[.int .u8 lk,.int .u32 ll,.int .u32 lz,.int .u32 lp] 59)) (w1.heap.size + 1) (by simp))
 rw [FE2] at HF2
 clear FE2
 go_upto_region 2 with (fail)
 go_cut [9] (fun p wx => p = .int .i64 (er) ∧ BL_ (w1.alloc (.cells #[.int .u8 lk,.int .u32 ll,.int .u32 lz,.int .u32 lp] 59)) wx)
 case first =>
  go_wp2_with (first | (go_at_call 72; (with_reducible refine (HWT.out _ _).mono ?_); rintro e w9 ⟨rfl,rfl⟩) | (go_at_call 72; (with_reducible refine (HWF.out _ _).mono ?_); rintro e w9 ⟨rfl,rfl⟩) | (go_at_call 71; (with_reducible refine HF2.out.1.mono ?_); rintro e w9 ⟨rfl,rfl⟩))
  all_goals
   go_meet
   exact fB_
 case rest =>
  obtain ⟨rfl,hbc⟩ := hcut
  have A2 := hQ_ (A1.out.below HS.out hbc)
  have I2 := hQ_ (I1.out.below hbc)
  skip
  have f2_I0 := cC4 I2.out
  clear hbc f1_I0
  clear he
  go_wp2_with fail
  go_ret2
  exact ListA.none_ A2.out (C1.out.1.more (by omega) (by omega))
theorem lst_file (hW0 : Wk Rep) (path : ByteArray) {li lk ll lz lp er : Int} (hr : Rep w v s S D) (hl : Lim s) (h2 : s.rd.length ≤ 18000) (h3 : s.rg.length ≤ 900) (hx : Mxs w S) (hp : path.size ≤ 100000) (hL : leadM s.shown path = (li,⟨lk,ll,lz,lp⟩,er)) (he : er = 0) (hk2 : lk ≠ 2) :
 Calls Tryz.prog 47 #[v,.string path] w (ListA Rep v s ([],12) 40 1 S D w) := by
 have A0 := hQ_ (At.start hr)
 have HX := hQ_ hx
 have HS := hQ_ hW0.stays
 have HL := hQ_ hl
 have C0 := hQ_ (aft0 s)
 have HWT := hQ_ when_t
 have HWF := hQ_ when_f
 have HLE := hQ_ (fun w (S D : Nat → Prop) (t : Vs) (hr : Rep w v t S D) (hsm : Sm t s) hl h2 hx => lead_c hW0 path hL hr hsm hl h2 hp hx)
 unfold LeadC at HLE
 dsimp only at HLE
 subst he
 have d0 : (lk != 2) = true := by simpa using hk2
 clear hr hl hp hL hx hk2 hW0
 go_enter Tryz.func47,Tryz.ntmps47
 go_wp2_with fail
 refine (HLE.out _ _ _ _ A0.out.rep (Aft.sm0 C0.out.1) (lim_aft C0.out.1 HL.out (by omega) (by omega)) (by have := C0.out.1.rd; omega) (HX.out.at_ A0.out)).mono ?_
 rintro e w1 ⟨s1,S1,D1,rfl,hr,st,hsm,hrd,hrg⟩
 have C1 := hQ_ (aftF C0.out hsm hrd hrg)
 have I1 := hQ_ (Blk.new_ w1 #[.int .u8 lk,.int .u32 ll,.int .u32 lz,.int .u32 lp] 59)
 have hbn := bX_ I1.out
 have A1 := hQ_ ((A0.out.step HS.out hr st).own HS.out hbn (Nat.le_refl w1.heap.size) (by simp))
 have f1_I0 := cC4 I1.out
 clear hr st hsm hrd hrg hbn
 have FE2 : fst_ [0,12] = 12 := rfl
 have HF2 := hQ_ (first_2b (0) (12) (w1.alloc (.cells #[.int .u8 lk,.int .u32 ll,.int .u32 lz,.int .u32 lp] 59)) (w1.heap.size + 1) (by simp))
 rw [FE2] at HF2
 clear FE2
 go_upto_region 2 with (fail)
 go_cut [9] (fun p wx => p = .int .i64 (12) ∧ BL_ (w1.alloc (.cells #[.int .u8 lk,.int .u32 ll,.int .u32 lz,.int .u32 lp] 59)) wx)
 case first =>
  go_wp2_with (first | (go_at_call 72; (with_reducible refine (HWT.out _ _).mono ?_); rintro e w9 ⟨rfl,rfl⟩) | (go_at_call 72; (with_reducible refine (HWF.out _ _).mono ?_); rintro e w9 ⟨rfl,rfl⟩) | (go_at_call 71; (with_reducible refine HF2.out.1.mono ?_); rintro e w9 ⟨rfl,rfl⟩))
  all_goals
   go_meet
   exact fB_
 case rest =>
  obtain ⟨rfl,hbc⟩ := hcut
  have A2 := hQ_ (A1.out.below HS.out hbc)
  have I2 := hQ_ (I1.out.below hbc)
  skip
  have f2_I0 := cC4 I2.out
  clear hbc f1_I0
  go_wp2_with fail
  go_ret2
  exact ListA.none_ A2.out (C1.out.1.more (by omega) (by omega))
theorem lst_dir (hW0 : Wk Rep) (path : ByteArray) {li lk ll lz lp er : Int} (hr : Rep w v s S D) (hl : Lim s) (h2 : s.rd.length ≤ 18000) (h3 : s.rg.length ≤ 900) (hx : Mxs w S) (hp : path.size ≤ 100000) (hL : leadM s.shown path = (li,⟨lk,ll,lz,lp⟩,er)) (he : er = 0) (hk2 : lk = 2) (l0 : 0 ≤ li) (l1 : li ≤ 4294967295) (hk : ∀ p ∈ s.shown,(sp p.key).letter ≠ 0) :
 Calls Tryz.prog 47 #[v,.string path] w (ListA Rep v s (listM li s.shown,0) 40 1 S D w) := by
 have A0 := hQ_ (At.start hr)
 have HX := hQ_ hx
 have HS := hQ_ hW0.stays
 have HL := hQ_ hl
 have C0 := hQ_ (aft0 s)
 have HWT := hQ_ when_t
 have HWF := hQ_ when_f
 have HLE := hQ_ (fun w (S D : Nat → Prop) (t : Vs) (hr : Rep w v t S D) (hsm : Sm t s) hl h2 hx => lead_c hW0 path hL hr hsm hl h2 hp hx)
 unfold LeadC at HLE
 dsimp only at HLE
 have HLS := hQ_ (fun w (S D : Nat → Prop) (t : Vs) (hr : Rep w v t S D) (hsm : Sm t s) (hl : Lim t) => show Calls _ _ _ _ (fun e w' => ∃ A m c a b S' D',e = .returned (.slice A m c) ∧ Sl Tx.txE w' A m (listM li s.shown) ∧ Rep w' v (t.ranged a b) S' D' ∧ Stp S D S' D' w w') by rw [← hsm.shown]; exact hW0.list li hr hl l0 l1 (by rw [hsm.shown]; exact hk))
 subst he
 have d1 : (lk != 2) = false := by rw [hk2]; rfl
 clear hr hl hp hL hx hk hW0 hk2
 go_enter Tryz.func47,Tryz.ntmps47
 go_wp2_with fail
 refine (HLE.out _ _ _ _ A0.out.rep (Aft.sm0 C0.out.1) (lim_aft C0.out.1 HL.out (by omega) (by omega)) (by have := C0.out.1.rd; omega) (HX.out.at_ A0.out)).mono ?_
 rintro e w1 ⟨s1,S1,D1,rfl,hr,st,hsm,hrd,hrg⟩
 have C1 := hQ_ (aftF C0.out hsm hrd hrg)
 have I1 := hQ_ (Blk.new_ w1 #[.int .u8 lk,.int .u32 ll,.int .u32 lz,.int .u32 lp] 59)
 have hbn := bX_ I1.out
 have A1 := hQ_ ((A0.out.step HS.out hr st).own HS.out hbn (Nat.le_refl w1.heap.size) (by simp))
 have f1_I0 := cC4 I1.out
 clear hr st hsm hrd hrg hbn
 have FE2 : fst_ [0,0] = 0 := rfl
 have HF2 := hQ_ (first_2b (0) (0) (w1.alloc (.cells #[.int .u8 lk,.int .u32 ll,.int .u32 lz,.int .u32 lp] 59)) (w1.heap.size + 1) (by simp))
 rw [FE2] at HF2
 clear FE2
 go_upto_region 2 with (fail)
 go_cut [9] (fun p wx => p = .int .i64 (0) ∧ BL_ (w1.alloc (.cells #[.int .u8 lk,.int .u32 ll,.int .u32 lz,.int .u32 lp] 59)) wx)
 case first =>
  go_wp2_with (first | (go_at_call 72; (with_reducible refine (HWT.out _ _).mono ?_); rintro e w9 ⟨rfl,rfl⟩) | (go_at_call 72; (with_reducible refine (HWF.out _ _).mono ?_); rintro e w9 ⟨rfl,rfl⟩) | (go_at_call 71; (with_reducible refine HF2.out.1.mono ?_); rintro e w9 ⟨rfl,rfl⟩))
  all_goals
   go_meet
   exact fB_
 case rest =>
  obtain ⟨rfl,hbc⟩ := hcut
  have A2 := hQ_ (A1.out.below HS.out hbc)
  have I2 := hQ_ (I1.out.below hbc)
  skip
  have f2_I0 := cC4 I2.out
  clear hbc f1_I0
  go_wp2_with fail
  refine (HLS.out _ _ _ _ A2.out.rep (Aft.sm0 C1.out.1) (lim_aft C1.out.1 HL.out (by omega) (by omega))).mono ?_
  rintro e w7 ⟨ra,rm,rc,a,b,S7,D7,rfl,hsl,hr,st⟩
  have A7 := hQ_ (A2.out.step HS.out hr st)
  have C7 := hQ_ (show Aft s (s1.ranged a b) [] 40 1 from ⟨((Sm.refl _).ranged a b).trans C1.out.1.sm,Nat.le_trans (Nat.le_of_eq (ranged_rd s1 a b)) C1.out.1.rd,Nat.le_trans (ranged_rg s1 a b) (Nat.succ_le_succ C1.out.1.rg)⟩)
  have HSL := hQ_ hsl
  clear hsl hr st
  go_wp2_with fail
  go_ret2
  exact ⟨ra,rm,rc,_,S7,D7,rfl,HSL.out,A7.out.rep,A7.out.st,C7.out⟩
theorem lst_calls (hW0 : Wk Rep) (path : ByteArray) (hr : Rep w v s S D) (hl : Lim s) (h2 : s.rd.length ≤ 18000) (h3 : s.rg.length ≤ 900) (hx : Mxs w S) (hp : path.size ≤ 100000) (hk : ∀ p ∈ s.shown,(sp p.key).letter ≠ 0) :
 Calls Tryz.prog 47 #[v,.string path] w (ListA Rep v s (lstV s.shown path) 40 1 S D w) := by
 obtain ⟨⟨li,⟨lk,ll,lz,lp⟩,er⟩,hL⟩ : ∃ R,leadM s.shown path = R := ⟨_,rfl⟩
 have h := hL
 unfold leadM at h
 unfold lstV
 have hsb := find_bd s.shown path
 by_cases he : (findM s.shown path).2 = 0
 ·rw [if_neg (fun h => h he)] at h ⊢
  by_cases h0 : (findM s.shown path).1.ino = 0
  ·rw [if_pos h0] at h ⊢
   injection h with h1 h
   injection h with h5 h6
   injection h5 with h5
   subst h6
   exact lst_err hW0 path hr hl h2 h3 hx hp hL (by decide) h5.symm
  ·rw [if_neg h0] at h ⊢
   injection h with h1 h
   injection h with h5 h6
   rw [h1,h5]
   by_cases hk2 : lk = 2
   ·rw [if_neg (fun h => h hk2)]
    exact lst_dir hW0 path hr hl h2 h3 hx hp hL h6.symm hk2 (by rw [← h1]; exact hsb.i0) (by rw [← h1]; exact hsb.i1) hk
   ·rw [if_pos hk2]
    exact lst_file hW0 path hr hl h2 h3 hx hp hL h6.symm hk2
 ·rw [if_pos he] at h ⊢
  injection h with h1 h
  injection h with h5 h6
  injection h5 with h5
  rw [h6] at he ⊢
  exact lst_err hW0 path hr hl h2 h3 hx hp hL he h5.symm
theorem lnk_err (hW0 : Wk Rep) (old path : ByteArray) {li lk ll lz lp er : Int} (hr : Rep w v s S D) (hl : Lim s) (h2 : s.rd.length ≤ 18000) (h3 : s.rg.length ≤ 900) (hx : Mxs w S) (hp : old.size ≤ 100000) (hp2 : path.size ≤ 100000) (hL : leadM s.shown old = (li,⟨lk,ll,lz,lp⟩,er)) (he : er ≠ 0) (hk2 : lk = 0) :
 Calls Tryz.prog 31 #[v,.string old,.string path] w (Ans Rep v s er [] 81 0 S D w) := by
 have A0 := hQ_ (At.start hr)
 have HX := hQ_ hx
 have HS := hQ_ hW0.stays
 have HL := hQ_ hl
 have C0 := hQ_ (aft0 s)
 have HWT := hQ_ when_t
 have HWF := hQ_ when_f
 have HLE := hQ_ (fun w (S D : Nat → Prop) (t : Vs) (hr : Rep w v t S D) (hsm : Sm t s) hl h2 hx => lead_c hW0 old hL hr hsm hl h2 hp hx)
 unfold LeadC at HLE
 dsimp only at HLE
 have d1 : (lk != 1) = true := by rw [hk2]; rfl
 have d0 : (er != 0) = true := by simpa using he
 clear hr hl hp hp2 hL hx hW0 hk2
 go_enter Tryz.func31,Tryz.ntmps31
 go_wp2_with fail
 refine (HLE.out _ _ _ _ A0.out.rep (Aft.sm0 C0.out.1) (lim_aft C0.out.1 HL.out (by omega) (by omega)) (by have := C0.out.1.rd; omega) (HX.out.at_ A0.out)).mono ?_
 rintro e w1 ⟨s1,S1,D1,rfl,hr,st,hsm,hrd,hrg⟩
 have C1 := hQ_ (aftF C0.out hsm hrd hrg)
 have I1 := hQ_ (Blk.new_ w1 #[.int .u8 lk,.int .u32 ll,.int .u32 lz,.int .u32 lp] 59)
 have hbn := bX_ I1.out
 have A1 := hQ_ ((A0.out.step HS.out hr st).own HS.out hbn (Nat.le_refl w1.heap.size) (by simp))
 have f1_I0 := cC4 I1.out
 clear hr st hsm hrd hrg hbn
 have FE2 : fst_ [er,13] = er := by unfold fst_; rw [if_neg he]
 have HF2 := hQ_ (first_2b (er) (13) (w1.alloc (.cells #[.int .u8 lk,.int .u32 ll,.int .u32 lz,.int .u32 lp] 59)) (w1.heap.size + 1) (by simp))
 rw [FE2] at HF2
 clear FE2
 go_upto_region 2 with (fail)
 go_cut [10] (fun p wx => p = .int .i64 (er) ∧ BL_ (w1.alloc (.cells #[.int .u8 lk,.int .u32 ll,.int .u32 lz,.int .u32 lp] 59)) wx)
 case first =>
  go_wp2_with (first | (go_at_call 72; (with_reducible refine (HWT.out _ _).mono ?_); rintro e w9 ⟨rfl,rfl⟩) | (go_at_call 72; (with_reducible refine (HWF.out _ _).mono ?_); rintro e w9 ⟨rfl,rfl⟩) | (go_at_call 71; (with_reducible refine HF2.out.1.mono ?_); rintro e w9 ⟨rfl,rfl⟩))
  all_goals
   go_meet
   exact fB_
 case rest =>
  obtain ⟨rfl,hbc⟩ := hcut
  have A2 := hQ_ (A1.out.below HS.out hbc)
  have I2 := hQ_ (I1.out.below hbc)
  skip
  have f2_I0 := cC4 I2.out
  clear hbc f1_I0
  clear he
  go_wp2_with fail
  go_ret
  exact Ans.ok A2.out ⟨C1.out.1.more (by omega) (by omega),C1.out.2⟩
theorem lnk_dir (hW0 : Wk Rep) (old path : ByteArray) {li lk ll lz lp er : Int} (hr : Rep w v s S D) (hl : Lim s) (h2 : s.rd.length ≤ 18000) (h3 : s.rg.length ≤ 900) (hx : Mxs w S) (hp : old.size ≤ 100000) (hp2 : path.size ≤ 100000) (hL : leadM s.shown old = (li,⟨lk,ll,lz,lp⟩,er)) (he : er = 0) (hk2 : lk ≠ 1) :
 Calls Tryz.prog 31 #[v,.string old,.string path] w (Ans Rep v s 13 [] 81 0 S D w) := by
 have A0 := hQ_ (At.start hr)
 have HX := hQ_ hx
 have HS := hQ_ hW0.stays
 have HL := hQ_ hl
 have C0 := hQ_ (aft0 s)
 have HWT := hQ_ when_t
 have HWF := hQ_ when_f
 have HLE := hQ_ (fun w (S D : Nat → Prop) (t : Vs) (hr : Rep w v t S D) (hsm : Sm t s) hl h2 hx => lead_c hW0 old hL hr hsm hl h2 hp hx)
 unfold LeadC at HLE
 dsimp only at HLE
 subst he
 have d0 : (lk != 1) = true := by simpa using hk2
 clear hr hl hp hp2 hL hx hk2 hW0
 go_enter Tryz.func31,Tryz.ntmps31
 go_wp2_with fail
 refine (HLE.out _ _ _ _ A0.out.rep (Aft.sm0 C0.out.1) (lim_aft C0.out.1 HL.out (by omega) (by omega)) (by have := C0.out.1.rd; omega) (HX.out.at_ A0.out)).mono ?_
 rintro e w1 ⟨s1,S1,D1,rfl,hr,st,hsm,hrd,hrg⟩
 have C1 := hQ_ (aftF C0.out hsm hrd hrg)
 have I1 := hQ_ (Blk.new_ w1 #[.int .u8 lk,.int .u32 ll,.int .u32 lz,.int .u32 lp] 59)
 have hbn := bX_ I1.out
 have A1 := hQ_ ((A0.out.step HS.out hr st).own HS.out hbn (Nat.le_refl w1.heap.size) (by simp))
 have f1_I0 := cC4 I1.out
 clear hr st hsm hrd hrg hbn
 have FE2 : fst_ [0,13] = 13 := rfl
 have HF2 := hQ_ (first_2b (0) (13) (w1.alloc (.cells #[.int .u8 lk,.int .u32 ll,.int .u32 lz,.int .u32 lp] 59)) (w1.heap.size + 1) (by simp))
 rw [FE2] at HF2
 clear FE2
 go_upto_region 2 with (fail)
 go_cut [10] (fun p wx => p = .int .i64 (13) ∧ BL_ (w1.alloc (.cells #[.int .u8 lk,.int .u32 ll,.int .u32 lz,.int .u32 lp] 59)) wx)
 case first =>
  go_wp2_with (first | (go_at_call 72; (with_reducible refine (HWT.out _ _).mono ?_); rintro e w9 ⟨rfl,rfl⟩) | (go_at_call 72; (with_reducible refine (HWF.out _ _).mono ?_); rintro e w9 ⟨rfl,rfl⟩) | (go_at_call 71; (with_reducible refine HF2.out.1.mono ?_); rintro e w9 ⟨rfl,rfl⟩))
  all_goals
   go_meet
   exact fB_
 case rest =>
  obtain ⟨rfl,hbc⟩ := hcut
  have A2 := hQ_ (A1.out.below HS.out hbc)
  have I2 := hQ_ (I1.out.below hbc)
  skip
  have f2_I0 := cC4 I2.out
  clear hbc f1_I0
  go_wp2_with fail
  go_ret
  exact Ans.ok A2.out ⟨C1.out.1.more (by omega) (by omega),C1.out.2⟩
theorem lnk_err2_00 (hW0 : Wk Rep) (old path : ByteArray) {li lk ll lz lp er : Int} {xd xi xk xl xz xp er2 : Int} {xn : ByteArray} (hr : Rep w v s S D) (hl : Lim s) (h2 : s.rd.length ≤ 18000) (h3 : s.rg.length ≤ 900) (hx : Mxs w S) (hp : old.size ≤ 100000) (hp2 : path.size ≤ 100000) (hL : leadM s.shown old = (li,⟨lk,ll,lz,lp⟩,er)) (hR : findM s.shown path = (⟨xd,xn,xi,⟨xk,xl,xz,xp⟩⟩,er2)) (he : er = 0) (hk2 : lk = 1) (he2 : er2 ≠ 0) (ha : xi = 0) (hb : ll < 1000) :
 Calls Tryz.prog 31 #[v,.string old,.string path] w (Ans Rep v s er2 [] 81 0 S D w) := by
 have A0 := hQ_ (At.start hr)
 have HX := hQ_ hx
 have HS := hQ_ hW0.stays
 have HL := hQ_ hl
 have C0 := hQ_ (aft0 s)
 have HWT := hQ_ when_t
 have HWF := hQ_ when_f
 have HLE := hQ_ (fun w (S D : Nat → Prop) (t : Vs) (hr : Rep w v t S D) (hsm : Sm t s) hl h2 hx => lead_c hW0 old hL hr hsm hl h2 hp hx)
 unfold LeadC at HLE
 dsimp only at HLE
 have HFI := hQ_ (fun w (S D : Nat → Prop) (t : Vs) (hr : Rep w v t S D) (hsm : Sm t s) hl h2 hx => find_c hW0 path hR hr hsm hl h2 hp2 hx)
 unfold FndC at HFI
 have hsbx := find_bd s.shown path
 have hibx := find_ib s.shown path
 rw [hR] at hsbx hibx
 obtain ⟨x0,x1,x2,x3,x4⟩ := hsbx
 dsimp only at x0 x1 x2 x3 x4 HFI hibx
 subst he
 have e1 : (lk != 1) = false := by simpa using hk2
 have d0 : (er2 != 0) = true := by simpa using he2
 have d1 : (xi != 0) = false := by simpa using ha
 have d2 : decide ((1000 : Int) ≤ ll) = false := by simp; omega
 clear ha hb hk2 hr hl hp hp2 hL hx hR hW0
 go_enter Tryz.func31,Tryz.ntmps31
 go_wp2_with fail
 refine (HLE.out _ _ _ _ A0.out.rep (Aft.sm0 C0.out.1) (lim_aft C0.out.1 HL.out (by omega) (by omega)) (by have := C0.out.1.rd; omega) (HX.out.at_ A0.out)).mono ?_
 rintro e w1 ⟨s1,S1,D1,rfl,hr,st,hsm,hrd,hrg⟩
 have C1 := hQ_ (aftF C0.out hsm hrd hrg)
 have I1 := hQ_ (Blk.new_ w1 #[.int .u8 lk,.int .u32 ll,.int .u32 lz,.int .u32 lp] 59)
 have hbn := bX_ I1.out
 have A1 := hQ_ ((A0.out.step HS.out hr st).own HS.out hbn (Nat.le_refl w1.heap.size) (by simp))
 have f1_I0 := cC4 I1.out
 clear hr st hsm hrd hrg hbn
 have FE2 : fst_ [0,0] = 0 := rfl
 have HF2 := hQ_ (first_2b (0) (0) (w1.alloc (.cells #[.int .u8 lk,.int .u32 ll,.int .u32 lz,.int .u32 lp] 59)) (w1.heap.size + 1) (by simp))
 rw [FE2] at HF2
 clear FE2
 go_upto_region 2 with (fail)
 go_cut [10] (fun p wx => p = .int .i64 (0) ∧ BL_ (w1.alloc (.cells #[.int .u8 lk,.int .u32 ll,.int .u32 lz,.int .u32 lp] 59)) wx)
 case first =>
  go_wp2_with (first | (go_at_call 72; (with_reducible refine (HWT.out _ _).mono ?_); rintro e w9 ⟨rfl,rfl⟩) | (go_at_call 72; (with_reducible refine (HWF.out _ _).mono ?_); rintro e w9 ⟨rfl,rfl⟩) | (go_at_call 71; (with_reducible refine HF2.out.1.mono ?_); rintro e w9 ⟨rfl,rfl⟩))
  all_goals
   go_meet
   exact fB_
 case rest =>
  obtain ⟨rfl,hbc⟩ := hcut
  have A2 := hQ_ (A1.out.below HS.out hbc)
  have I2 := hQ_ (I1.out.below hbc)
  skip
  have f2_I0 := cC4 I2.out
  clear hbc f1_I0
  go_wp2_with fail
  refine (HFI.out _ _ _ _ A2.out.rep (Aft.sm0 C1.out.1) (lim_aft C1.out.1 HL.out (by omega) (by omega)) (by have := C1.out.1.rd; omega) (HX.out.at_ A2.out).1).mono ?_
  rintro e w3 ⟨s3,S3,D3,rfl,hr,st,hsm,hrd,hrg⟩
  have C3 := hQ_ (aftF C1.out hsm hrd hrg)
  have X3 := hQ_ (Blk.new_ w3 #[.int .u32 xd,.string xn,.int .u32 xi,.int .u8 xk,.int .u32 xl,.int .u32 xz,.int .u32 xp] 65)
  have hbn := bX_ X3.out
  have AQ := A2.out.step HS.out hr st
  have A3 := hQ_ (AQ.own HS.out hbn (Nat.le_refl w3.heap.size) (by simp))
  have I3 := hQ_ ((A2.out.blk HS.out I2.out (.inr rfl) st).below hbn)
  have f3_I0 := cC4 I3.out
  have f3_X0 := cC7 X3.out
  clear hr st hsm hrd hrg hbn AQ f2_I0
  have FE4 : fst_ [er2,0,0] = er2 := by unfold fst_; rw [if_neg he2]
  have HF4 := hQ_ (first_3b (er2) (0) (0) (w3.alloc (.cells #[.int .u32 xd,.string xn,.int .u32 xi,.int .u8 xk,.int .u32 xl,.int .u32 xz,.int .u32 xp] 65)) (w3.heap.size + 1) (by simp))
  rw [FE4] at HF4
  clear FE4
  go_upto_region 6 with (fail)
  go_cut [12] (fun p wx => p = .int .i64 (er2) ∧ BL_ (w3.alloc (.cells #[.int .u32 xd,.string xn,.int .u32 xi,.int .u8 xk,.int .u32 xl,.int .u32 xz,.int .u32 xp] 65)) wx)
  case first =>
   go_region_law (first | (go_simp; go_at_call 72; (with_reducible refine (HWT.out _ _).mono ?_); rintro e w9 ⟨rfl,rfl⟩) | (go_simp; go_at_call 72; (with_reducible refine (HWF.out _ _).mono ?_); rintro e w9 ⟨rfl,rfl⟩) | (go_simp; go_at_call 71; (first | (with_reducible refine HF4.out.1.mono ?_) | (with_reducible refine HF4.out.2.mono ?_)); rintro e w9 ⟨rfl,rfl⟩))
   all_goals
    go_wp2_with fail
    go_meet
    exact fB_
  case rest =>
   obtain ⟨rfl,hbc⟩ := hcut
   have A4 := hQ_ (A3.out.below HS.out hbc)
   have I4 := hQ_ (I3.out.below hbc)
   have X4 := hQ_ (X3.out.below hbc)
   skip
   have f4_I0 := cC4 I4.out
   have f4_X0 := cC7 X4.out
   clear hbc f3_I0 f3_X0
   clear he2
   go_wp2_with fail
   go_ret
   exact Ans.ok A4.out ⟨C3.out.1.more (by omega) (by omega),C3.out.2⟩
theorem lnk_err2_01 (hW0 : Wk Rep) (old path : ByteArray) {li lk ll lz lp er : Int} {xd xi xk xl xz xp er2 : Int} {xn : ByteArray} (hr : Rep w v s S D) (hl : Lim s) (h2 : s.rd.length ≤ 18000) (h3 : s.rg.length ≤ 900) (hx : Mxs w S) (hp : old.size ≤ 100000) (hp2 : path.size ≤ 100000) (hL : leadM s.shown old = (li,⟨lk,ll,lz,lp⟩,er)) (hR : findM s.shown path = (⟨xd,xn,xi,⟨xk,xl,xz,xp⟩⟩,er2)) (he : er = 0) (hk2 : lk = 1) (he2 : er2 ≠ 0) (ha : xi = 0) (hb : 1000 ≤ ll) :
 Calls Tryz.prog 31 #[v,.string old,.string path] w (Ans Rep v s er2 [] 81 0 S D w) := by
 have A0 := hQ_ (At.start hr)
 have HX := hQ_ hx
 have HS := hQ_ hW0.stays
 have HL := hQ_ hl
 have C0 := hQ_ (aft0 s)
 have HWT := hQ_ when_t
 have HWF := hQ_ when_f
 have HLE := hQ_ (fun w (S D : Nat → Prop) (t : Vs) (hr : Rep w v t S D) (hsm : Sm t s) hl h2 hx => lead_c hW0 old hL hr hsm hl h2 hp hx)
 unfold LeadC at HLE
 dsimp only at HLE
 have HFI := hQ_ (fun w (S D : Nat → Prop) (t : Vs) (hr : Rep w v t S D) (hsm : Sm t s) hl h2 hx => find_c hW0 path hR hr hsm hl h2 hp2 hx)
 unfold FndC at HFI
 have hsbx := find_bd s.shown path
 have hibx := find_ib s.shown path
 rw [hR] at hsbx hibx
 obtain ⟨x0,x1,x2,x3,x4⟩ := hsbx
 dsimp only at x0 x1 x2 x3 x4 HFI hibx
 subst he
 have e1 : (lk != 1) = false := by simpa using hk2
 have d0 : (er2 != 0) = true := by simpa using he2
 have d1 : (xi != 0) = false := by simpa using ha
 have d2 : decide ((1000 : Int) ≤ ll) = true := by simp; omega
 clear ha hb hk2 hr hl hp hp2 hL hx hR hW0
 go_enter Tryz.func31,Tryz.ntmps31
 go_wp2_with fail
 refine (HLE.out _ _ _ _ A0.out.rep (Aft.sm0 C0.out.1) (lim_aft C0.out.1 HL.out (by omega) (by omega)) (by have := C0.out.1.rd; omega) (HX.out.at_ A0.out)).mono ?_
 rintro e w1 ⟨s1,S1,D1,rfl,hr,st,hsm,hrd,hrg⟩
 have C1 := hQ_ (aftF C0.out hsm hrd hrg)
 have I1 := hQ_ (Blk.new_ w1 #[.int .u8 lk,.int .u32 ll,.int .u32 lz,.int .u32 lp] 59)
 have hbn := bX_ I1.out
 have A1 := hQ_ ((A0.out.step HS.out hr st).own HS.out hbn (Nat.le_refl w1.heap.size) (by simp))
 have f1_I0 := cC4 I1.out
 clear hr st hsm hrd hrg hbn
 have FE2 : fst_ [0,0] = 0 := rfl
 have HF2 := hQ_ (first_2b (0) (0) (w1.alloc (.cells #[.int .u8 lk,.int .u32 ll,.int .u32 lz,.int .u32 lp] 59)) (w1.heap.size + 1) (by simp))
 rw [FE2] at HF2
 clear FE2
 go_upto_region 2 with (fail)
 go_cut [10] (fun p wx => p = .int .i64 (0) ∧ BL_ (w1.alloc (.cells #[.int .u8 lk,.int .u32 ll,.int .u32 lz,.int .u32 lp] 59)) wx)
 case first =>
  go_wp2_with (first | (go_at_call 72; (with_reducible refine (HWT.out _ _).mono ?_); rintro e w9 ⟨rfl,rfl⟩) | (go_at_call 72; (with_reducible refine (HWF.out _ _).mono ?_); rintro e w9 ⟨rfl,rfl⟩) | (go_at_call 71; (with_reducible refine HF2.out.1.mono ?_); rintro e w9 ⟨rfl,rfl⟩))
  all_goals
   go_meet
   exact fB_
 case rest =>
  obtain ⟨rfl,hbc⟩ := hcut
  have A2 := hQ_ (A1.out.below HS.out hbc)
  have I2 := hQ_ (I1.out.below hbc)
  skip
  have f2_I0 := cC4 I2.out
  clear hbc f1_I0
  go_wp2_with fail
  refine (HFI.out _ _ _ _ A2.out.rep (Aft.sm0 C1.out.1) (lim_aft C1.out.1 HL.out (by omega) (by omega)) (by have := C1.out.1.rd; omega) (HX.out.at_ A2.out).1).mono ?_
  rintro e w3 ⟨s3,S3,D3,rfl,hr,st,hsm,hrd,hrg⟩
  have C3 := hQ_ (aftF C1.out hsm hrd hrg)
  have X3 := hQ_ (Blk.new_ w3 #[.int .u32 xd,.string xn,.int .u32 xi,.int .u8 xk,.int .u32 xl,.int .u32 xz,.int .u32 xp] 65)
  have hbn := bX_ X3.out
  have AQ := A2.out.step HS.out hr st
  have A3 := hQ_ (AQ.own HS.out hbn (Nat.le_refl w3.heap.size) (by simp))
  have I3 := hQ_ ((A2.out.blk HS.out I2.out (.inr rfl) st).below hbn)
  have f3_I0 := cC4 I3.out
  have f3_X0 := cC7 X3.out
  clear hr st hsm hrd hrg hbn AQ f2_I0
  have FE4 : fst_ [er2,0,18] = er2 := by unfold fst_; rw [if_neg he2]
  have HF4 := hQ_ (first_3b (er2) (0) (18) (w3.alloc (.cells #[.int .u32 xd,.string xn,.int .u32 xi,.int .u8 xk,.int .u32 xl,.int .u32 xz,.int .u32 xp] 65)) (w3.heap.size + 1) (by simp))
  rw [FE4] at HF4
  clear FE4
  go_upto_region 6 with (fail)
  go_cut [12] (fun p wx => p = .int .i64 (er2) ∧ BL_ (w3.alloc (.cells #[.int .u32 xd,.string xn,.int .u32 xi,.int .u8 xk,.int .u32 xl,.int .u32 xz,.int .u32 xp] 65)) wx)
  case first =>
   go_region_law (first | (go_simp; go_at_call 72; (with_reducible refine (HWT.out _ _).mono ?_); rintro e w9 ⟨rfl,rfl⟩) | (go_simp; go_at_call 72; (with_reducible refine (HWF.out _ _).mono ?_); rintro e w9 ⟨rfl,rfl⟩) | (go_simp; go_at_call 71; (first | (with_reducible refine HF4.out.1.mono ?_) | (with_reducible refine HF4.out.2.mono ?_)); rintro e w9 ⟨rfl,rfl⟩))
   all_goals
    go_wp2_with fail
    go_meet
    exact fB_
  case rest =>
   obtain ⟨rfl,hbc⟩ := hcut
   have A4 := hQ_ (A3.out.below HS.out hbc)
   have I4 := hQ_ (I3.out.below hbc)
   have X4 := hQ_ (X3.out.below hbc)
   skip
   have f4_I0 := cC4 I4.out
   have f4_X0 := cC7 X4.out
   clear hbc f3_I0 f3_X0
   clear he2
   go_wp2_with fail
   go_ret
   exact Ans.ok A4.out ⟨C3.out.1.more (by omega) (by omega),C3.out.2⟩
theorem lnk_err2_10 (hW0 : Wk Rep) (old path : ByteArray) {li lk ll lz lp er : Int} {xd xi xk xl xz xp er2 : Int} {xn : ByteArray} (hr : Rep w v s S D) (hl : Lim s) (h2 : s.rd.length ≤ 18000) (h3 : s.rg.length ≤ 900) (hx : Mxs w S) (hp : old.size ≤ 100000) (hp2 : path.size ≤ 100000) (hL : leadM s.shown old = (li,⟨lk,ll,lz,lp⟩,er)) (hR : findM s.shown path = (⟨xd,xn,xi,⟨xk,xl,xz,xp⟩⟩,er2)) (he : er = 0) (hk2 : lk = 1) (he2 : er2 ≠ 0) (ha : xi ≠ 0) (hb : ll < 1000) :
 Calls Tryz.prog 31 #[v,.string old,.string path] w (Ans Rep v s er2 [] 81 0 S D w) := by
 have A0 := hQ_ (At.start hr)
 have HX := hQ_ hx
 have HS := hQ_ hW0.stays
 have HL := hQ_ hl
 have C0 := hQ_ (aft0 s)
 have HWT := hQ_ when_t
 have HWF := hQ_ when_f
 have HLE := hQ_ (fun w (S D : Nat → Prop) (t : Vs) (hr : Rep w v t S D) (hsm : Sm t s) hl h2 hx => lead_c hW0 old hL hr hsm hl h2 hp hx)
 unfold LeadC at HLE
 dsimp only at HLE
 have HFI := hQ_ (fun w (S D : Nat → Prop) (t : Vs) (hr : Rep w v t S D) (hsm : Sm t s) hl h2 hx => find_c hW0 path hR hr hsm hl h2 hp2 hx)
 unfold FndC at HFI
 have hsbx := find_bd s.shown path
 have hibx := find_ib s.shown path
 rw [hR] at hsbx hibx
 obtain ⟨x0,x1,x2,x3,x4⟩ := hsbx
 dsimp only at x0 x1 x2 x3 x4 HFI hibx
 subst he
 have e1 : (lk != 1) = false := by simpa using hk2
 have d0 : (er2 != 0) = true := by simpa using he2
 have d1 : (xi != 0) = true := by simpa using ha
 have d2 : decide ((1000 : Int) ≤ ll) = false := by simp; omega
 clear ha hb hk2 hr hl hp hp2 hL hx hR hW0
 go_enter Tryz.func31,Tryz.ntmps31
 go_wp2_with fail
 refine (HLE.out _ _ _ _ A0.out.rep (Aft.sm0 C0.out.1) (lim_aft C0.out.1 HL.out (by omega) (by omega)) (by have := C0.out.1.rd; omega) (HX.out.at_ A0.out)).mono ?_
 rintro e w1 ⟨s1,S1,D1,rfl,hr,st,hsm,hrd,hrg⟩
 have C1 := hQ_ (aftF C0.out hsm hrd hrg)
 have I1 := hQ_ (Blk.new_ w1 #[.int .u8 lk,.int .u32 ll,.int .u32 lz,.int .u32 lp] 59)
 have hbn := bX_ I1.out
 have A1 := hQ_ ((A0.out.step HS.out hr st).own HS.out hbn (Nat.le_refl w1.heap.size) (by simp))
 have f1_I0 := cC4 I1.out
 clear hr st hsm hrd hrg hbn
 have FE2 : fst_ [0,0] = 0 := rfl
 have HF2 := hQ_ (first_2b (0) (0) (w1.alloc (.cells #[.int .u8 lk,.int .u32 ll,.int .u32 lz,.int .u32 lp] 59)) (w1.heap.size + 1) (by simp))
 rw [FE2] at HF2
 clear FE2
 go_upto_region 2 with (fail)
 go_cut [10] (fun p wx => p = .int .i64 (0) ∧ BL_ (w1.alloc (.cells #[.int .u8 lk,.int .u32 ll,.int .u32 lz,.int .u32 lp] 59)) wx)
 case first =>
  go_wp2_with (first | (go_at_call 72; (with_reducible refine (HWT.out _ _).mono ?_); rintro e w9 ⟨rfl,rfl⟩) | (go_at_call 72; (with_reducible refine (HWF.out _ _).mono ?_); rintro e w9 ⟨rfl,rfl⟩) | (go_at_call 71; (with_reducible refine HF2.out.1.mono ?_); rintro e w9 ⟨rfl,rfl⟩))
  all_goals
   go_meet
   exact fB_
 case rest =>
  obtain ⟨rfl,hbc⟩ := hcut
  have A2 := hQ_ (A1.out.below HS.out hbc)
  have I2 := hQ_ (I1.out.below hbc)
  skip
  have f2_I0 := cC4 I2.out
  clear hbc f1_I0
  go_wp2_with fail
  refine (HFI.out _ _ _ _ A2.out.rep (Aft.sm0 C1.out.1) (lim_aft C1.out.1 HL.out (by omega) (by omega)) (by have := C1.out.1.rd; omega) (HX.out.at_ A2.out).1).mono ?_
  rintro e w3 ⟨s3,S3,D3,rfl,hr,st,hsm,hrd,hrg⟩
  have C3 := hQ_ (aftF C1.out hsm hrd hrg)
  have X3 := hQ_ (Blk.new_ w3 #[.int .u32 xd,.string xn,.int .u32 xi,.int .u8 xk,.int .u32 xl,.int .u32 xz,.int .u32 xp] 65)
  have hbn := bX_ X3.out
  have AQ := A2.out.step HS.out hr st
  have A3 := hQ_ (AQ.own HS.out hbn (Nat.le_refl w3.heap.size) (by simp))
  have I3 := hQ_ ((A2.out.blk HS.out I2.out (.inr rfl) st).below hbn)
  have f3_I0 := cC4 I3.out
  have f3_X0 := cC7 X3.out
  clear hr st hsm hrd hrg hbn AQ f2_I0
  have FE4 : fst_ [er2,11,0] = er2 := by unfold fst_; rw [if_neg he2]
  have HF4 := hQ_ (first_3b (er2) (11) (0) (w3.alloc (.cells #[.int .u32 xd,.string xn,.int .u32 xi,.int .u8 xk,.int .u32 xl,.int .u32 xz,.int .u32 xp] 65)) (w3.heap.size + 1) (by simp))
  rw [FE4] at HF4
  clear FE4
  go_upto_region 6 with (fail)
  go_cut [12] (fun p wx => p = .int .i64 (er2) ∧ BL_ (w3.alloc (.cells #[.int .u32 xd,.string xn,.int .u32 xi,.int .u8 xk,.int .u32 xl,.int .u32 xz,.int .u32 xp] 65)) wx)
  case first =>
   go_region_law (first | (go_simp; go_at_call 72; (with_reducible refine (HWT.out _ _).mono ?_); rintro e w9 ⟨rfl,rfl⟩) | (go_simp; go_at_call 72; (with_reducible refine (HWF.out _ _).mono ?_); rintro e w9 ⟨rfl,rfl⟩) | (go_simp; go_at_call 71; (first | (with_reducible refine HF4.out.1.mono ?_) | (with_reducible refine HF4.out.2.mono ?_)); rintro e w9 ⟨rfl,rfl⟩))
   all_goals
    go_wp2_with fail
    go_meet
    exact fB_
  case rest =>
   obtain ⟨rfl,hbc⟩ := hcut
   have A4 := hQ_ (A3.out.below HS.out hbc)
   have I4 := hQ_ (I3.out.below hbc)
   have X4 := hQ_ (X3.out.below hbc)
   skip
   have f4_I0 := cC4 I4.out
   have f4_X0 := cC7 X4.out
   clear hbc f3_I0 f3_X0
   clear he2
   go_wp2_with fail
   go_ret
   exact Ans.ok A4.out ⟨C3.out.1.more (by omega) (by omega),C3.out.2⟩
theorem lnk_err2_11 (hW0 : Wk Rep) (old path : ByteArray) {li lk ll lz lp er : Int} {xd xi xk xl xz xp er2 : Int} {xn : ByteArray} (hr : Rep w v s S D) (hl : Lim s) (h2 : s.rd.length ≤ 18000) (h3 : s.rg.length ≤ 900) (hx : Mxs w S) (hp : old.size ≤ 100000) (hp2 : path.size ≤ 100000) (hL : leadM s.shown old = (li,⟨lk,ll,lz,lp⟩,er)) (hR : findM s.shown path = (⟨xd,xn,xi,⟨xk,xl,xz,xp⟩⟩,er2)) (he : er = 0) (hk2 : lk = 1) (he2 : er2 ≠ 0) (ha : xi ≠ 0) (hb : 1000 ≤ ll) :
 Calls Tryz.prog 31 #[v,.string old,.string path] w (Ans Rep v s er2 [] 81 0 S D w) := by
 have A0 := hQ_ (At.start hr)
 have HX := hQ_ hx
 have HS := hQ_ hW0.stays
 have HL := hQ_ hl
 have C0 := hQ_ (aft0 s)
 have HWT := hQ_ when_t
 have HWF := hQ_ when_f
 have HLE := hQ_ (fun w (S D : Nat → Prop) (t : Vs) (hr : Rep w v t S D) (hsm : Sm t s) hl h2 hx => lead_c hW0 old hL hr hsm hl h2 hp hx)
 unfold LeadC at HLE
 dsimp only at HLE
 have HFI := hQ_ (fun w (S D : Nat → Prop) (t : Vs) (hr : Rep w v t S D) (hsm : Sm t s) hl h2 hx => find_c hW0 path hR hr hsm hl h2 hp2 hx)
 unfold FndC at HFI
 have hsbx := find_bd s.shown path
 have hibx := find_ib s.shown path
 rw [hR] at hsbx hibx
 obtain ⟨x0,x1,x2,x3,x4⟩ := hsbx
 dsimp only at x0 x1 x2 x3 x4 HFI hibx
 subst he
 have e1 : (lk != 1) = false := by simpa using hk2
 have d0 : (er2 != 0) = true := by simpa using he2
 have d1 : (xi != 0) = true := by simpa using ha
 have d2 : decide ((1000 : Int) ≤ ll) = true := by simp; omega
 clear ha hb hk2 hr hl hp hp2 hL hx hR hW0
 go_enter Tryz.func31,Tryz.ntmps31
 go_wp2_with fail
 refine (HLE.out _ _ _ _ A0.out.rep (Aft.sm0 C0.out.1) (lim_aft C0.out.1 HL.out (by omega) (by omega)) (by have := C0.out.1.rd; omega) (HX.out.at_ A0.out)).mono ?_
 rintro e w1 ⟨s1,S1,D1,rfl,hr,st,hsm,hrd,hrg⟩
 have C1 := hQ_ (aftF C0.out hsm hrd hrg)
 have I1 := hQ_ (Blk.new_ w1 #[.int .u8 lk,.int .u32 ll,.int .u32 lz,.int .u32 lp] 59)
 have hbn := bX_ I1.out
 have A1 := hQ_ ((A0.out.step HS.out hr st).own HS.out hbn (Nat.le_refl w1.heap.size) (by simp))
 have f1_I0 := cC4 I1.out
 clear hr st hsm hrd hrg hbn
 have FE2 : fst_ [0,0] = 0 := rfl
 have HF2 := hQ_ (first_2b (0) (0) (w1.alloc (.cells #[.int .u8 lk,.int .u32 ll,.int .u32 lz,.int .u32 lp] 59)) (w1.heap.size + 1) (by simp))
 rw [FE2] at HF2
 clear FE2
 go_upto_region 2 with (fail)
 go_cut [10] (fun p wx => p = .int .i64 (0) ∧ BL_ (w1.alloc (.cells #[.int .u8 lk,.int .u32 ll,.int .u32 lz,.int .u32 lp] 59)) wx)
 case first =>
  go_wp2_with (first | (go_at_call 72; (with_reducible refine (HWT.out _ _).mono ?_); rintro e w9 ⟨rfl,rfl⟩) | (go_at_call 72; (with_reducible refine (HWF.out _ _).mono ?_); rintro e w9 ⟨rfl,rfl⟩) | (go_at_call 71; (with_reducible refine HF2.out.1.mono ?_); rintro e w9 ⟨rfl,rfl⟩))
  all_goals
   go_meet
   exact fB_
 case rest =>
  obtain ⟨rfl,hbc⟩ := hcut
  have A2 := hQ_ (A1.out.below HS.out hbc)
  have I2 := hQ_ (I1.out.below hbc)
  skip
  have f2_I0 := cC4 I2.out
  clear hbc f1_I0
  go_wp2_with fail
  refine (HFI.out _ _ _ _ A2.out.rep (Aft.sm0 C1.out.1) (lim_aft C1.out.1 HL.out (by omega) (by omega)) (by have := C1.out.1.rd; omega) (HX.out.at_ A2.out).1).mono ?_
  rintro e w3 ⟨s3,S3,D3,rfl,hr,st,hsm,hrd,hrg⟩
  have C3 := hQ_ (aftF C1.out hsm hrd hrg)
  have X3 := hQ_ (Blk.new_ w3 #[.int .u32 xd,.string xn,.int .u32 xi,.int .u8 xk,.int .u32 xl,.int .u32 xz,.int .u32 xp] 65)
  have hbn := bX_ X3.out
  have AQ := A2.out.step HS.out hr st
  have A3 := hQ_ (AQ.own HS.out hbn (Nat.le_refl w3.heap.size) (by simp))
  have I3 := hQ_ ((A2.out.blk HS.out I2.out (.inr rfl) st).below hbn)
  have f3_I0 := cC4 I3.out
  have f3_X0 := cC7 X3.out
  clear hr st hsm hrd hrg hbn AQ f2_I0
  have FE4 : fst_ [er2,11,18] = er2 := by unfold fst_; rw [if_neg he2]
  have HF4 := hQ_ (first_3b (er2) (11) (18) (w3.alloc (.cells #[.int .u32 xd,.string xn,.int .u32 xi,.int .u8 xk,.int .u32 xl,.int .u32 xz,.int .u32 xp] 65)) (w3.heap.size + 1) (by simp))
  rw [FE4] at HF4
  clear FE4
  go_upto_region 6 with (fail)
  go_cut [12] (fun p wx => p = .int .i64 (er2) ∧ BL_ (w3.alloc (.cells #[.int .u32 xd,.string xn,.int .u32 xi,.int .u8 xk,.int .u32 xl,.int .u32 xz,.int .u32 xp] 65)) wx)
  case first =>
   go_region_law (first | (go_simp; go_at_call 72; (with_reducible refine (HWT.out _ _).mono ?_); rintro e w9 ⟨rfl,rfl⟩) | (go_simp; go_at_call 72; (with_reducible refine (HWF.out _ _).mono ?_); rintro e w9 ⟨rfl,rfl⟩) | (go_simp; go_at_call 71; (first | (with_reducible refine HF4.out.1.mono ?_) | (with_reducible refine HF4.out.2.mono ?_)); rintro e w9 ⟨rfl,rfl⟩))
   all_goals
    go_wp2_with fail
    go_meet
    exact fB_
  case rest =>
   obtain ⟨rfl,hbc⟩ := hcut
   have A4 := hQ_ (A3.out.below HS.out hbc)
   have I4 := hQ_ (I3.out.below hbc)
   have X4 := hQ_ (X3.out.below hbc)
   skip
   have f4_I0 := cC4 I4.out
   have f4_X0 := cC7 X4.out
   clear hbc f3_I0 f3_X0
   clear he2
   go_wp2_with fail
   go_ret
   exact Ans.ok A4.out ⟨C3.out.1.more (by omega) (by omega),C3.out.2⟩
theorem lnk_there_0 (hW0 : Wk Rep) (old path : ByteArray) {li lk ll lz lp er : Int} {xd xi xk xl xz xp er2 : Int} {xn : ByteArray} (hr : Rep w v s S D) (hl : Lim s) (h2 : s.rd.length ≤ 18000) (h3 : s.rg.length ≤ 900) (hx : Mxs w S) (hp : old.size ≤ 100000) (hp2 : path.size ≤ 100000) (hL : leadM s.shown old = (li,⟨lk,ll,lz,lp⟩,er)) (hR : findM s.shown path = (⟨xd,xn,xi,⟨xk,xl,xz,xp⟩⟩,er2)) (he : er = 0) (hk2 : lk = 1) (he2 : er2 = 0) (ha : xi ≠ 0) (hb : ll < 1000) :
 Calls Tryz.prog 31 #[v,.string old,.string path] w (Ans Rep v s 11 [] 81 0 S D w) := by
 have A0 := hQ_ (At.start hr)
 have HX := hQ_ hx
 have HS := hQ_ hW0.stays
 have HL := hQ_ hl
 have C0 := hQ_ (aft0 s)
 have HWT := hQ_ when_t
 have HWF := hQ_ when_f
 have HLE := hQ_ (fun w (S D : Nat → Prop) (t : Vs) (hr : Rep w v t S D) (hsm : Sm t s) hl h2 hx => lead_c hW0 old hL hr hsm hl h2 hp hx)
 unfold LeadC at HLE
 dsimp only at HLE
 have HFI := hQ_ (fun w (S D : Nat → Prop) (t : Vs) (hr : Rep w v t S D) (hsm : Sm t s) hl h2 hx => find_c hW0 path hR hr hsm hl h2 hp2 hx)
 unfold FndC at HFI
 have hsbx := find_bd s.shown path
 have hibx := find_ib s.shown path
 rw [hR] at hsbx hibx
 obtain ⟨x0,x1,x2,x3,x4⟩ := hsbx
 dsimp only at x0 x1 x2 x3 x4 HFI hibx
 subst he
 have e1 : (lk != 1) = false := by simpa using hk2
 subst he2
 have d1 : (xi != 0) = true := by simpa using ha
 have d2 : decide ((1000 : Int) ≤ ll) = false := by simp; omega
 clear ha hb hk2 hr hl hp hp2 hL hx hR hW0
 go_enter Tryz.func31,Tryz.ntmps31
 go_wp2_with fail
 refine (HLE.out _ _ _ _ A0.out.rep (Aft.sm0 C0.out.1) (lim_aft C0.out.1 HL.out (by omega) (by omega)) (by have := C0.out.1.rd; omega) (HX.out.at_ A0.out)).mono ?_
 rintro e w1 ⟨s1,S1,D1,rfl,hr,st,hsm,hrd,hrg⟩
 have C1 := hQ_ (aftF C0.out hsm hrd hrg)
 have I1 := hQ_ (Blk.new_ w1 #[.int .u8 lk,.int .u32 ll,.int .u32 lz,.int .u32 lp] 59)
 have hbn := bX_ I1.out
 have A1 := hQ_ ((A0.out.step HS.out hr st).own HS.out hbn (Nat.le_refl w1.heap.size) (by simp))
 have f1_I0 := cC4 I1.out
 clear hr st hsm hrd hrg hbn
 have FE2 : fst_ [0,0] = 0 := rfl
 have HF2 := hQ_ (first_2b (0) (0) (w1.alloc (.cells #[.int .u8 lk,.int .u32 ll,.int .u32 lz,.int .u32 lp] 59)) (w1.heap.size + 1) (by simp))
 rw [FE2] at HF2
 clear FE2
 go_upto_region 2 with (fail)
 go_cut [10] (fun p wx => p = .int .i64 (0) ∧ BL_ (w1.alloc (.cells #[.int .u8 lk,.int .u32 ll,.int .u32 lz,.int .u32 lp] 59)) wx)
 case first =>
  go_wp2_with (first | (go_at_call 72; (with_reducible refine (HWT.out _ _).mono ?_); rintro e w9 ⟨rfl,rfl⟩) | (go_at_call 72; (with_reducible refine (HWF.out _ _).mono ?_); rintro e w9 ⟨rfl,rfl⟩) | (go_at_call 71; (with_reducible refine HF2.out.1.mono ?_); rintro e w9 ⟨rfl,rfl⟩))
  all_goals
   go_meet
   exact fB_
 case rest =>
  obtain ⟨rfl,hbc⟩ := hcut
  have A2 := hQ_ (A1.out.below HS.out hbc)
  have I2 := hQ_ (I1.out.below hbc)
  skip
  have f2_I0 := cC4 I2.out
  clear hbc f1_I0
  go_wp2_with fail
  refine (HFI.out _ _ _ _ A2.out.rep (Aft.sm0 C1.out.1) (lim_aft C1.out.1 HL.out (by omega) (by omega)) (by have := C1.out.1.rd; omega) (HX.out.at_ A2.out).1).mono ?_
  rintro e w3 ⟨s3,S3,D3,rfl,hr,st,hsm,hrd,hrg⟩
  have C3 := hQ_ (aftF C1.out hsm hrd hrg)
  have X3 := hQ_ (Blk.new_ w3 #[.int .u32 xd,.string xn,.int .u32 xi,.int .u8 xk,.int .u32 xl,.int .u32 xz,.int .u32 xp] 65)
  have hbn := bX_ X3.out
  have AQ := A2.out.step HS.out hr st
  have A3 := hQ_ (AQ.own HS.out hbn (Nat.le_refl w3.heap.size) (by simp))
  have I3 := hQ_ ((A2.out.blk HS.out I2.out (.inr rfl) st).below hbn)
  have f3_I0 := cC4 I3.out
  have f3_X0 := cC7 X3.out
  clear hr st hsm hrd hrg hbn AQ f2_I0
  have FE4 : fst_ [0,11,0] = 11 := rfl
  have HF4 := hQ_ (first_3b (0) (11) (0) (w3.alloc (.cells #[.int .u32 xd,.string xn,.int .u32 xi,.int .u8 xk,.int .u32 xl,.int .u32 xz,.int .u32 xp] 65)) (w3.heap.size + 1) (by simp))
  rw [FE4] at HF4
  clear FE4
  go_upto_region 6 with (fail)
  go_cut [12] (fun p wx => p = .int .i64 (11) ∧ BL_ (w3.alloc (.cells #[.int .u32 xd,.string xn,.int .u32 xi,.int .u8 xk,.int .u32 xl,.int .u32 xz,.int .u32 xp] 65)) wx)
  case first =>
   go_region_law (first | (go_simp; go_at_call 72; (with_reducible refine (HWT.out _ _).mono ?_); rintro e w9 ⟨rfl,rfl⟩) | (go_simp; go_at_call 72; (with_reducible refine (HWF.out _ _).mono ?_); rintro e w9 ⟨rfl,rfl⟩) | (go_simp; go_at_call 71; (first | (with_reducible refine HF4.out.1.mono ?_) | (with_reducible refine HF4.out.2.mono ?_)); rintro e w9 ⟨rfl,rfl⟩))
   all_goals
    go_wp2_with fail
    go_meet
    exact fB_
  case rest =>
   obtain ⟨rfl,hbc⟩ := hcut
   have A4 := hQ_ (A3.out.below HS.out hbc)
   have I4 := hQ_ (I3.out.below hbc)
   have X4 := hQ_ (X3.out.below hbc)
   skip
   have f4_I0 := cC4 I4.out
   have f4_X0 := cC7 X4.out
   clear hbc f3_I0 f3_X0
   go_wp2_with fail
   go_ret
   exact Ans.ok A4.out ⟨C3.out.1.more (by omega) (by omega),C3.out.2⟩
theorem lnk_there_1 (hW0 : Wk Rep) (old path : ByteArray) {li lk ll lz lp er : Int} {xd xi xk xl xz xp er2 : Int} {xn : ByteArray} (hr : Rep w v s S D) (hl : Lim s) (h2 : s.rd.length ≤ 18000) (h3 : s.rg.length ≤ 900) (hx : Mxs w S) (hp : old.size ≤ 100000) (hp2 : path.size ≤ 100000) (hL : leadM s.shown old = (li,⟨lk,ll,lz,lp⟩,er)) (hR : findM s.shown path = (⟨xd,xn,xi,⟨xk,xl,xz,xp⟩⟩,er2)) (he : er = 0) (hk2 : lk = 1) (he2 : er2 = 0) (ha : xi ≠ 0) (hb : 1000 ≤ ll) :
 Calls Tryz.prog 31 #[v,.string old,.string path] w (Ans Rep v s 11 [] 81 0 S D w) := by
 have A0 := hQ_ (At.start hr)
 have HX := hQ_ hx
 have HS := hQ_ hW0.stays
 have HL := hQ_ hl
 have C0 := hQ_ (aft0 s)
 have HWT := hQ_ when_t
 have HWF := hQ_ when_f
 have HLE := hQ_ (fun w (S D : Nat → Prop) (t : Vs) (hr : Rep w v t S D) (hsm : Sm t s) hl h2 hx => lead_c hW0 old hL hr hsm hl h2 hp hx)
 unfold LeadC at HLE
 dsimp only at HLE
 have HFI := hQ_ (fun w (S D : Nat → Prop) (t : Vs) (hr : Rep w v t S D) (hsm : Sm t s) hl h2 hx => find_c hW0 path hR hr hsm hl h2 hp2 hx)
 unfold FndC at HFI
 have hsbx := find_bd s.shown path
 have hibx := find_ib s.shown path
 rw [hR] at hsbx hibx
 obtain ⟨x0,x1,x2,x3,x4⟩ := hsbx
 dsimp only at x0 x1 x2 x3 x4 HFI hibx
 subst he
 have e1 : (lk != 1) = false := by simpa using hk2
 subst he2
 have d1 : (xi != 0) = true := by simpa using ha
 have d2 : decide ((1000 : Int) ≤ ll) = true := by simp; omega
 clear ha hb hk2 hr hl hp hp2 hL hx hR hW0
 go_enter Tryz.func31,Tryz.ntmps31
 go_wp2_with fail
 refine (HLE.out _ _ _ _ A0.out.rep (Aft.sm0 C0.out.1) (lim_aft C0.out.1 HL.out (by omega) (by omega)) (by have := C0.out.1.rd; omega) (HX.out.at_ A0.out)).mono ?_
 rintro e w1 ⟨s1,S1,D1,rfl,hr,st,hsm,hrd,hrg⟩
 have C1 := hQ_ (aftF C0.out hsm hrd hrg)
 have I1 := hQ_ (Blk.new_ w1 #[.int .u8 lk,.int .u32 ll,.int .u32 lz,.int .u32 lp] 59)
 have hbn := bX_ I1.out
 have A1 := hQ_ ((A0.out.step HS.out hr st).own HS.out hbn (Nat.le_refl w1.heap.size) (by simp))
 have f1_I0 := cC4 I1.out
 clear hr st hsm hrd hrg hbn
 have FE2 : fst_ [0,0] = 0 := rfl
 have HF2 := hQ_ (first_2b (0) (0) (w1.alloc (.cells #[.int .u8 lk,.int .u32 ll,.int .u32 lz,.int .u32 lp] 59)) (w1.heap.size + 1) (by simp))
 rw [FE2] at HF2
 clear FE2
 go_upto_region 2 with (fail)
 go_cut [10] (fun p wx => p = .int .i64 (0) ∧ BL_ (w1.alloc (.cells #[.int .u8 lk,.int .u32 ll,.int .u32 lz,.int .u32 lp] 59)) wx)
 case first =>
  go_wp2_with (first | (go_at_call 72; (with_reducible refine (HWT.out _ _).mono ?_); rintro e w9 ⟨rfl,rfl⟩) | (go_at_call 72; (with_reducible refine (HWF.out _ _).mono ?_); rintro e w9 ⟨rfl,rfl⟩) | (go_at_call 71; (with_reducible refine HF2.out.1.mono ?_); rintro e w9 ⟨rfl,rfl⟩))
  all_goals
   go_meet
   exact fB_
 case rest =>
  obtain ⟨rfl,hbc⟩ := hcut
  have A2 := hQ_ (A1.out.below HS.out hbc)
  have I2 := hQ_ (I1.out.below hbc)
  skip
  have f2_I0 := cC4 I2.out
  clear hbc f1_I0
  go_wp2_with fail
  refine (HFI.out _ _ _ _ A2.out.rep (Aft.sm0 C1.out.1) (lim_aft C1.out.1 HL.out (by omega) (by omega)) (by have := C1.out.1.rd; omega) (HX.out.at_ A2.out).1).mono ?_
  rintro e w3 ⟨s3,S3,D3,rfl,hr,st,hsm,hrd,hrg⟩
  have C3 := hQ_ (aftF C1.out hsm hrd hrg)
  have X3 := hQ_ (Blk.new_ w3 #[.int .u32 xd,.string xn,.int .u32 xi,.int .u8 xk,.int .u32 xl,.int .u32 xz,.int .u32 xp] 65)
  have hbn := bX_ X3.out
  have AQ := A2.out.step HS.out hr st
  have A3 := hQ_ (AQ.own HS.out hbn (Nat.le_refl w3.heap.size) (by simp))
  have I3 := hQ_ ((A2.out.blk HS.out I2.out (.inr rfl) st).below hbn)
  have f3_I0 := cC4 I3.out
  have f3_X0 := cC7 X3.out
  clear hr st hsm hrd hrg hbn AQ f2_I0
  have FE4 : fst_ [0,11,18] = 11 := rfl
  have HF4 := hQ_ (first_3b (0) (11) (18) (w3.alloc (.cells #[.int .u32 xd,.string xn,.int .u32 xi,.int .u8 xk,.int .u32 xl,.int .u32 xz,.int .u32 xp] 65)) (w3.heap.size + 1) (by simp))
  rw [FE4] at HF4
  clear FE4
  go_upto_region 6 with (fail)
  go_cut [12] (fun p wx => p = .int .i64 (11) ∧ BL_ (w3.alloc (.cells #[.int .u32 xd,.string xn,.int .u32 xi,.int .u8 xk,.int .u32 xl,.int .u32 xz,.int .u32 xp] 65)) wx)
  case first =>
   go_region_law (first | (go_simp; go_at_call 72; (with_reducible refine (HWT.out _ _).mono ?_); rintro e w9 ⟨rfl,rfl⟩) | (go_simp; go_at_call 72; (with_reducible refine (HWF.out _ _).mono ?_); rintro e w9 ⟨rfl,rfl⟩) | (go_simp; go_at_call 71; (first | (with_reducible refine HF4.out.1.mono ?_) | (with_reducible refine HF4.out.2.mono ?_)); rintro e w9 ⟨rfl,rfl⟩))
   all_goals
    go_wp2_with fail
    go_meet
    exact fB_
  case rest =>
   obtain ⟨rfl,hbc⟩ := hcut
   have A4 := hQ_ (A3.out.below HS.out hbc)
   have I4 := hQ_ (I3.out.below hbc)
   have X4 := hQ_ (X3.out.below hbc)
   skip
   have f4_I0 := cC4 I4.out
   have f4_X0 := cC7 X4.out
   clear hbc f3_I0 f3_X0
   go_wp2_with fail
   go_ret
   exact Ans.ok A4.out ⟨C3.out.1.more (by omega) (by omega),C3.out.2⟩
theorem lnk_many (hW0 : Wk Rep) (old path : ByteArray) {li lk ll lz lp er : Int} {xd xi xk xl xz xp er2 : Int} {xn : ByteArray} (hr : Rep w v s S D) (hl : Lim s) (h2 : s.rd.length ≤ 18000) (h3 : s.rg.length ≤ 900) (hx : Mxs w S) (hp : old.size ≤ 100000) (hp2 : path.size ≤ 100000) (hL : leadM s.shown old = (li,⟨lk,ll,lz,lp⟩,er)) (hR : findM s.shown path = (⟨xd,xn,xi,⟨xk,xl,xz,xp⟩⟩,er2)) (he : er = 0) (hk2 : lk = 1) (he2 : er2 = 0) (ha : xi = 0) (hb : 1000 ≤ ll) :
 Calls Tryz.prog 31 #[v,.string old,.string path] w (Ans Rep v s 18 [] 81 0 S D w) := by
 have A0 := hQ_ (At.start hr)
 have HX := hQ_ hx
 have HS := hQ_ hW0.stays
 have HL := hQ_ hl
 have C0 := hQ_ (aft0 s)
 have HWT := hQ_ when_t
 have HWF := hQ_ when_f
 have HLE := hQ_ (fun w (S D : Nat → Prop) (t : Vs) (hr : Rep w v t S D) (hsm : Sm t s) hl h2 hx => lead_c hW0 old hL hr hsm hl h2 hp hx)
 unfold LeadC at HLE
 dsimp only at HLE
 have HFI := hQ_ (fun w (S D : Nat → Prop) (t : Vs) (hr : Rep w v t S D) (hsm : Sm t s) hl h2 hx => find_c hW0 path hR hr hsm hl h2 hp2 hx)
 unfold FndC at HFI
 have hsbx := find_bd s.shown path
 have hibx := find_ib s.shown path
 rw [hR] at hsbx hibx
 obtain ⟨x0,x1,x2,x3,x4⟩ := hsbx
 dsimp only at x0 x1 x2 x3 x4 HFI hibx
 subst he
 have e1 : (lk != 1) = false := by simpa using hk2
 subst he2
 have d1 : (xi != 0) = false := by simpa using ha
 have d2 : decide ((1000 : Int) ≤ ll) = true := by simp; omega
 clear ha hb hk2 hr hl hp hp2 hL hx hR hW0
 go_enter Tryz.func31,Tryz.ntmps31
 go_wp2_with fail
 refine (HLE.out _ _ _ _ A0.out.rep (Aft.sm0 C0.out.1) (lim_aft C0.out.1 HL.out (by omega) (by omega)) (by have := C0.out.1.rd; omega) (HX.out.at_ A0.out)).mono ?_
 rintro e w1 ⟨s1,S1,D1,rfl,hr,st,hsm,hrd,hrg⟩
 have C1 := hQ_ (aftF C0.out hsm hrd hrg)
 have I1 := hQ_ (Blk.new_ w1 #[.int .u8 lk,.int .u32 ll,.int .u32 lz,.int .u32 lp] 59)
 have hbn := bX_ I1.out
 have A1 := hQ_ ((A0.out.step HS.out hr st).own HS.out hbn (Nat.le_refl w1.heap.size) (by simp))
 have f1_I0 := cC4 I1.out
 clear hr st hsm hrd hrg hbn
 have FE2 : fst_ [0,0] = 0 := rfl
 have HF2 := hQ_ (first_2b (0) (0) (w1.alloc (.cells #[.int .u8 lk,.int .u32 ll,.int .u32 lz,.int .u32 lp] 59)) (w1.heap.size + 1) (by simp))
 rw [FE2] at HF2
 clear FE2
 go_upto_region 2 with (fail)
 go_cut [10] (fun p wx => p = .int .i64 (0) ∧ BL_ (w1.alloc (.cells #[.int .u8 lk,.int .u32 ll,.int .u32 lz,.int .u32 lp] 59)) wx)
 case first =>
  go_wp2_with (first | (go_at_call 72; (with_reducible refine (HWT.out _ _).mono ?_); rintro e w9 ⟨rfl,rfl⟩) | (go_at_call 72; (with_reducible refine (HWF.out _ _).mono ?_); rintro e w9 ⟨rfl,rfl⟩) | (go_at_call 71; (with_reducible refine HF2.out.1.mono ?_); rintro e w9 ⟨rfl,rfl⟩))
  all_goals
   go_meet
   exact fB_
 case rest =>
  obtain ⟨rfl,hbc⟩ := hcut
  have A2 := hQ_ (A1.out.below HS.out hbc)
  have I2 := hQ_ (I1.out.below hbc)
  skip
  have f2_I0 := cC4 I2.out
  clear hbc f1_I0
  go_wp2_with fail
  refine (HFI.out _ _ _ _ A2.out.rep (Aft.sm0 C1.out.1) (lim_aft C1.out.1 HL.out (by omega) (by omega)) (by have := C1.out.1.rd; omega) (HX.out.at_ A2.out).1).mono ?_
  rintro e w3 ⟨s3,S3,D3,rfl,hr,st,hsm,hrd,hrg⟩
  have C3 := hQ_ (aftF C1.out hsm hrd hrg)
  have X3 := hQ_ (Blk.new_ w3 #[.int .u32 xd,.string xn,.int .u32 xi,.int .u8 xk,.int .u32 xl,.int .u32 xz,.int .u32 xp] 65)
  have hbn := bX_ X3.out
  have AQ := A2.out.step HS.out hr st
  have A3 := hQ_ (AQ.own HS.out hbn (Nat.le_refl w3.heap.size) (by simp))
  have I3 := hQ_ ((A2.out.blk HS.out I2.out (.inr rfl) st).below hbn)
  have f3_I0 := cC4 I3.out
  have f3_X0 := cC7 X3.out
  clear hr st hsm hrd hrg hbn AQ f2_I0
  have FE4 : fst_ [0,0,18] = 18 := rfl
  have HF4 := hQ_ (first_3b (0) (0) (18) (w3.alloc (.cells #[.int .u32 xd,.string xn,.int .u32 xi,.int .u8 xk,.int .u32 xl,.int .u32 xz,.int .u32 xp] 65)) (w3.heap.size + 1) (by simp))
  rw [FE4] at HF4
  clear FE4
  go_upto_region 6 with (fail)
  go_cut [12] (fun p wx => p = .int .i64 (18) ∧ BL_ (w3.alloc (.cells #[.int .u32 xd,.string xn,.int .u32 xi,.int .u8 xk,.int .u32 xl,.int .u32 xz,.int .u32 xp] 65)) wx)
  case first =>
   go_region_law (first | (go_simp; go_at_call 72; (with_reducible refine (HWT.out _ _).mono ?_); rintro e w9 ⟨rfl,rfl⟩) | (go_simp; go_at_call 72; (with_reducible refine (HWF.out _ _).mono ?_); rintro e w9 ⟨rfl,rfl⟩) | (go_simp; go_at_call 71; (first | (with_reducible refine HF4.out.1.mono ?_) | (with_reducible refine HF4.out.2.mono ?_)); rintro e w9 ⟨rfl,rfl⟩))
   all_goals
    go_wp2_with fail
    go_meet
    exact fB_
  case rest =>
   obtain ⟨rfl,hbc⟩ := hcut
   have A4 := hQ_ (A3.out.below HS.out hbc)
   have I4 := hQ_ (I3.out.below hbc)
   have X4 := hQ_ (X3.out.below hbc)
   skip
   have f4_I0 := cC4 I4.out
   have f4_X0 := cC7 X4.out
   clear hbc f3_I0 f3_X0
   go_wp2_with fail
   go_ret
   exact Ans.ok A4.out ⟨C3.out.1.more (by omega) (by omega),C3.out.2⟩
theorem lnk_do (hW0 : Wk Rep) (old path : ByteArray) {li lk ll lz lp er : Int} {xd xi xk xl xz xp er2 : Int} {xn : ByteArray} (hr : Rep w v s S D) (hl : Lim s) (h2 : s.rd.length ≤ 18000) (h3 : s.rg.length ≤ 900) (hx : Mxs w S) (hp : old.size ≤ 100000) (hp2 : path.size ≤ 100000) (hL : leadM s.shown old = (li,⟨lk,ll,lz,lp⟩,er)) (hR : findM s.shown path = (⟨xd,xn,xi,⟨xk,xl,xz,xp⟩⟩,er2)) (he : er = 0) (hk2 : lk = 1) (he2 : er2 = 0) (ha : xi = 0) (hb : ll < 1000) (i0 : 0 ≤ li) (i1 : li ≤ 4294967295) (hib : InoB lk ll lz lp) :
 Calls Tryz.prog 31 #[v,.string old,.string path] w (Ans Rep v s 0 [hangP xd xn li,saveP li lk (ll + 1) lz lp] 81 0 S D w) := by
 have A0 := hQ_ (At.start hr)
 have HX := hQ_ hx
 have HS := hQ_ hW0.stays
 have HWK := hQ_ hW0
 have HL := hQ_ hl
 have HRO := hQ_ room_calls
 have C0 := hQ_ (aft0 s)
 have HWT := hQ_ when_t
 have HWF := hQ_ when_f
 have HLE := hQ_ (fun w (S D : Nat → Prop) (t : Vs) (hr : Rep w v t S D) (hsm : Sm t s) hl h2 hx => lead_c hW0 old hL hr hsm hl h2 hp hx)
 unfold LeadC at HLE
 dsimp only at HLE
 have HFI := hQ_ (fun w (S D : Nat → Prop) (t : Vs) (hr : Rep w v t S D) (hsm : Sm t s) hl h2 hx => find_c hW0 path hR hr hsm hl h2 hp2 hx)
 unfold FndC at HFI
 have hsbx := find_bd s.shown path
 have hibx := find_ib s.shown path
 rw [hR] at hsbx hibx
 obtain ⟨x0,x1,x2,x3,x4⟩ := hsbx
 dsimp only at x0 x1 x2 x3 x4 HFI hibx
 subst he
 have e1 : (lk != 1) = false := by simpa using hk2
 subst he2
 have d1 : (xi != 0) = false := by simpa using ha
 have d2 : decide ((1000 : Int) ≤ ll) = false := by simp; omega
 obtain ⟨b0,b1,b2,b3,b4,b5,b6,b7⟩ := hib
 clear ha hk2 hr hl hp hp2 hL hx hR hW0
 go_enter Tryz.func31,Tryz.ntmps31
 go_wp2_with fail
 refine (HLE.out _ _ _ _ A0.out.rep (Aft.sm0 C0.out.1) (lim_aft C0.out.1 HL.out (by omega) (by omega)) (by have := C0.out.1.rd; omega) (HX.out.at_ A0.out)).mono ?_
 rintro e w1 ⟨s1,S1,D1,rfl,hr,st,hsm,hrd,hrg⟩
 have C1 := hQ_ (aftF C0.out hsm hrd hrg)
 have I1 := hQ_ (Blk.new_ w1 #[.int .u8 lk,.int .u32 ll,.int .u32 lz,.int .u32 lp] 59)
 have hbn := bX_ I1.out
 have A1 := hQ_ ((A0.out.step HS.out hr st).own HS.out hbn (Nat.le_refl w1.heap.size) (by simp))
 have f1_I0 := cC4 I1.out
 clear hr st hsm hrd hrg hbn
 have FE2 : fst_ [0,0] = 0 := rfl
 have HF2 := hQ_ (first_2b (0) (0) (w1.alloc (.cells #[.int .u8 lk,.int .u32 ll,.int .u32 lz,.int .u32 lp] 59)) (w1.heap.size + 1) (by simp))
 rw [FE2] at HF2
 clear FE2
 go_upto_region 2 with (fail)
 go_cut [10] (fun p wx => p = .int .i64 (0) ∧ BL_ (w1.alloc (.cells #[.int .u8 lk,.int .u32 ll,.int .u32 lz,.int .u32 lp] 59)) wx)
 case first =>
  go_wp2_with (first | (go_at_call 72; (with_reducible refine (HWT.out _ _).mono ?_); rintro e w9 ⟨rfl,rfl⟩) | (go_at_call 72; (with_reducible refine (HWF.out _ _).mono ?_); rintro e w9 ⟨rfl,rfl⟩) | (go_at_call 71; (with_reducible refine HF2.out.1.mono ?_); rintro e w9 ⟨rfl,rfl⟩))
  all_goals
   go_meet
   exact fB_
 case rest =>
  obtain ⟨rfl,hbc⟩ := hcut
  have A2 := hQ_ (A1.out.below HS.out hbc)
  have I2 := hQ_ (I1.out.below hbc)
  skip
  have f2_I0 := cC4 I2.out
  clear hbc f1_I0
  go_wp2_with fail
  refine (HFI.out _ _ _ _ A2.out.rep (Aft.sm0 C1.out.1) (lim_aft C1.out.1 HL.out (by omega) (by omega)) (by have := C1.out.1.rd; omega) (HX.out.at_ A2.out).1).mono ?_
  rintro e w3 ⟨s3,S3,D3,rfl,hr,st,hsm,hrd,hrg⟩
  have C3 := hQ_ (aftF C1.out hsm hrd hrg)
  have X3 := hQ_ (Blk.new_ w3 #[.int .u32 xd,.string xn,.int .u32 xi,.int .u8 xk,.int .u32 xl,.int .u32 xz,.int .u32 xp] 65)
  have hbn := bX_ X3.out
  have AQ := A2.out.step HS.out hr st
  have A3 := hQ_ (AQ.own HS.out hbn (Nat.le_refl w3.heap.size) (by simp))
  have I3 := hQ_ ((A2.out.blk HS.out I2.out (.inr rfl) st).below hbn)
  have f3_I0 := cC4 I3.out
  have f3_X0 := cC7 X3.out
  clear hr st hsm hrd hrg hbn AQ f2_I0
  have FE4 : fst_ [0,0,0] = 0 := rfl
  have HF4 := hQ_ (first_3b (0) (0) (0) (w3.alloc (.cells #[.int .u32 xd,.string xn,.int .u32 xi,.int .u8 xk,.int .u32 xl,.int .u32 xz,.int .u32 xp] 65)) (w3.heap.size + 1) (by simp))
  rw [FE4] at HF4
  clear FE4
  go_upto_region 6 with (fail)
  go_cut [12] (fun p wx => p = .int .i64 (0) ∧ BL_ (w3.alloc (.cells #[.int .u32 xd,.string xn,.int .u32 xi,.int .u8 xk,.int .u32 xl,.int .u32 xz,.int .u32 xp] 65)) wx)
  case first =>
   go_region_law (first | (go_simp; go_at_call 72; (with_reducible refine (HWT.out _ _).mono ?_); rintro e w9 ⟨rfl,rfl⟩) | (go_simp; go_at_call 72; (with_reducible refine (HWF.out _ _).mono ?_); rintro e w9 ⟨rfl,rfl⟩) | (go_simp; go_at_call 71; (first | (with_reducible refine HF4.out.1.mono ?_) | (with_reducible refine HF4.out.2.mono ?_)); rintro e w9 ⟨rfl,rfl⟩))
   all_goals
    go_wp2_with fail
    go_meet
    exact fB_
  case rest =>
   obtain ⟨rfl,hbc⟩ := hcut
   have A4 := hQ_ (A3.out.below HS.out hbc)
   have I4 := hQ_ (I3.out.below hbc)
   have X4 := hQ_ (X3.out.below hbc)
   skip
   have f4_I0 := cC4 I4.out
   have f4_X0 := cC7 X4.out
   clear hbc f3_I0 f3_X0
   have y1 : wc.frozen? ⟨w1.heap.size,1,none⟩ = false := I4.out.frozen 1
   have AZ := hQ_ (A4.out.set HS.out I4.out (.inl (.inr rfl)) (by decide) 1 (.int .u32 (ll + 1)))
   have hIZ := I4.out.set_ 1 (.int .u32 (ll + 1))
   have IZ := hQ_ (show Blk (wc.setCell ⟨w1.heap.size,1,none⟩ (.int .u32 (ll + 1))) w1.heap.size #[.int .u8 lk,.int .u32 (ll + 1),.int .u32 lz,.int .u32 lp] 59 from hIZ)
   clear hIZ
   have XZ := hQ_ (X4.out.far (p := ⟨w1.heap.size,1,none⟩) (blk_ne X4.out I4.out (by decide)) (.int .u32 (ll + 1)))
   have f99_I0 := cC4 IZ.out
   have f99_X0 := cC7 XZ.out
   go_wp2_with fail
   refine (hang_w HWK.out xd xn li AZ.out.rep (lim_aft C3.out.1 HL.out (by omega) (by omega)) (by omega) (by omega) (by omega) (by omega) (by omega)).mono ?_
   intro e w5 hh
   rcases Wrote.split hh with ⟨s5,S5,D5,rfl,ho,hr,st,ha⟩ | ⟨s5,S5,D5,rfl,ho,hr,st,ha⟩
   ·obtain ⟨x1,x2⟩ := C3.out.1.app C3.out.2 ha
    have C5 := hQ_ (And.intro x1 (x2.trans ho))
    clear x1 x2 ho ha
    have A5 := hQ_ (AZ.out.step HS.out hr st)
    have I5 := hQ_ (AZ.out.blk HS.out IZ.out (.inl (.inr rfl)) st)
    have X5 := hQ_ (AZ.out.blk HS.out XZ.out (.inr rfl) st)
    obtain ⟨f5_I0,f5_I1,f5_I2,f5_I3⟩ := cC4 I5.out
    obtain ⟨f5_X0,f5_X1,f5_X2,f5_X3,f5_X4,f5_X5,f5_X6⟩ := cC7 X5.out
    clear st hr y1 f4_I0 f4_X0 f99_I0 f99_X0
    go_wp2_with fail
    refine (save_w HWK.out li lk (ll + 1) lz lp A5.out.rep (lim_aft C5.out.1 HL.out (by omega) (by omega)) (by omega) (by omega) ⟨by omega,by omega,by omega,by omega,by omega,by omega,by omega,by omega⟩).mono ?_
    intro e w6 hh
    rcases Wrote.split hh with ⟨s6,S6,D6,rfl,ho,hr,st,ha⟩ | ⟨s6,S6,D6,rfl,ho,hr,st,ha⟩
    ·obtain ⟨x1,x2⟩ := C5.out.1.app C5.out.2 ha
     have C6 := hQ_ (And.intro x1 (x2.trans ho))
     clear x1 x2 ho ha
     have A6 := hQ_ (A5.out.step HS.out hr st)
     have I6 := hQ_ (A5.out.blk HS.out I5.out (.inl (.inr rfl)) st)
     have X6 := hQ_ (A5.out.blk HS.out X5.out (.inr rfl) st)
     obtain ⟨f6_I0,f6_I1,f6_I2,f6_I3⟩ := cC4 I6.out
     obtain ⟨f6_X0,f6_X1,f6_X2,f6_X3,f6_X4,f6_X5,f6_X6⟩ := cC7 X6.out
     clear st hr f5_I0 f5_I1 f5_I2 f5_I3 f5_X0 f5_X1 f5_X2 f5_X3 f5_X4 f5_X5 f5_X6
     go_wp2_with (go_at_call 75; refine (HRO.out _ _).mono ?_; rintro e w9 ⟨rfl,rfl⟩)
     go_ret
     exact Ans.ok A6.out ⟨C6.out.1.more (by omega) (by omega),C6.out.2⟩
    ·obtain ⟨x1,x2⟩ := C5.out.1.app C5.out.2 ha
     have C6 := hQ_ (And.intro x1 (x2.trans ho))
     clear x1 x2 ho ha
     have A6 := hQ_ (A5.out.step HS.out hr st)
     have I6 := hQ_ (A5.out.blk HS.out I5.out (.inl (.inr rfl)) st)
     have X6 := hQ_ (A5.out.blk HS.out X5.out (.inr rfl) st)
     obtain ⟨f6_I0,f6_I1,f6_I2,f6_I3⟩ := cC4 I6.out
     obtain ⟨f6_X0,f6_X1,f6_X2,f6_X3,f6_X4,f6_X5,f6_X6⟩ := cC7 X6.out
     clear st hr f5_I0 f5_I1 f5_I2 f5_I3 f5_X0 f5_X1 f5_X2 f5_X3 f5_X4 f5_X5 f5_X6
     go_wp2_with (go_at_call 75; refine (HRO.out _ _).mono ?_; rintro e w9 ⟨rfl,rfl⟩)
     go_ret
     exact Ans.full A6.out ⟨(Aft.stop (qs := []) C6.out.1 C6.out.2).1.more (by omega) (by omega),(Aft.stop (qs := []) C6.out.1 C6.out.2).2⟩
   ·obtain ⟨x1,x2⟩ := C3.out.1.app C3.out.2 ha
    have C5 := hQ_ (And.intro x1 (x2.trans ho))
    clear x1 x2 ho ha
    have A5 := hQ_ (AZ.out.step HS.out hr st)
    have I5 := hQ_ (AZ.out.blk HS.out IZ.out (.inl (.inr rfl)) st)
    have X5 := hQ_ (AZ.out.blk HS.out XZ.out (.inr rfl) st)
    obtain ⟨f5_I0,f5_I1,f5_I2,f5_I3⟩ := cC4 I5.out
    obtain ⟨f5_X0,f5_X1,f5_X2,f5_X3,f5_X4,f5_X5,f5_X6⟩ := cC7 X5.out
    clear st hr y1 f4_I0 f4_X0 f99_I0 f99_X0
    go_wp2_with (go_at_call 75; refine (HRO.out _ _).mono ?_; rintro e w9 ⟨rfl,rfl⟩)
    go_ret
    exact Ans.full A5.out ⟨(Aft.stop (qs := [saveP li lk (ll + 1) lz lp]) C5.out.1 C5.out.2).1.more (by omega) (by omega),(Aft.stop (qs := [saveP li lk (ll + 1) lz lp]) C5.out.1 C5.out.2).2⟩
theorem lnk_calls (hW0 : Wk Rep) (old path : ByteArray) (hr : Rep w v s S D) (hl : Lim s) (h2 : s.rd.length ≤ 18000) (h3 : s.rg.length ≤ 900) (hx : Mxs w S) (hp : old.size ≤ 100000) (hp2 : path.size ≤ 100000) :
 Calls Tryz.prog 31 #[v,.string old,.string path] w (Ans Rep v s (lnkV s.shown old path).1 (lnkV s.shown old path).2 81 0 S D w) := by
 obtain ⟨⟨li,⟨lk,ll,lz,lp⟩,er⟩,hL⟩ : ∃ R,leadM s.shown old = R := ⟨_,rfl⟩
 obtain ⟨⟨⟨xd,xn,xi,⟨xk,xl,xz,xp⟩⟩,er2⟩,hR⟩ : ∃ R,findM s.shown path = R := ⟨_,rfl⟩
 have h := hL
 unfold leadM at h
 unfold lnkV
 have hsb := find_bd s.shown old
 have hib := find_ib s.shown old
 rw [hR]
 by_cases he : (findM s.shown old).2 = 0
 ·rw [if_neg (fun h => h he)] at h ⊢
  by_cases h0 : (findM s.shown old).1.ino = 0
  ·rw [if_pos h0] at h ⊢
   injection h with h1 h
   injection h with h5 h6
   injection h5 with h5
   subst h6
   exact lnk_err hW0 old path hr hl h2 h3 hx hp hp2 hL (by decide) h5.symm
  ·rw [if_neg h0] at h ⊢
   injection h with h1 h
   injection h with h5 h6
   rw [h5] at hib
   rw [h1,h5]
   dsimp only at hib ⊢
   have h6 := h6.symm
   by_cases hk2 : lk = 1
   ·rw [if_neg (fun h => h hk2)]
    by_cases he2 : er2 = 0
    ·rw [if_neg (fun h => h he2)]
     by_cases ha : xi = 0
     ·rw [if_neg (fun h => h ha)]
      by_cases hb : 1000 ≤ ll
      ·rw [if_pos hb]
       exact lnk_many hW0 old path hr hl h2 h3 hx hp hp2 hL hR h6 hk2 he2 ha hb
      ·rw [if_neg hb]
       exact lnk_do hW0 old path hr hl h2 h3 hx hp hp2 hL hR h6 hk2 he2 ha (by omega) (by rw [← h1]; exact hsb.i0) (by rw [← h1]; exact hsb.i1) hib
     ·rw [if_pos ha]
      by_cases hb : 1000 ≤ ll
      ·exact lnk_there_1 hW0 old path hr hl h2 h3 hx hp hp2 hL hR h6 hk2 he2 ha hb
      ·exact lnk_there_0 hW0 old path hr hl h2 h3 hx hp hp2 hL hR h6 hk2 he2 ha (by omega)
    ·rw [if_pos he2]
     by_cases ha : xi = 0
     ·by_cases hb : 1000 ≤ ll
      ·exact lnk_err2_01 hW0 old path hr hl h2 h3 hx hp hp2 hL hR h6 hk2 he2 ha hb
      ·exact lnk_err2_00 hW0 old path hr hl h2 h3 hx hp hp2 hL hR h6 hk2 he2 ha (by omega)
     ·by_cases hb : 1000 ≤ ll
      ·exact lnk_err2_11 hW0 old path hr hl h2 h3 hx hp hp2 hL hR h6 hk2 he2 ha hb
      ·exact lnk_err2_10 hW0 old path hr hl h2 h3 hx hp hp2 hL hR h6 hk2 he2 ha (by omega)
   ·rw [if_pos hk2]
    exact lnk_dir hW0 old path hr hl h2 h3 hx hp hp2 hL h6 hk2
 ·rw [if_pos he] at h ⊢
  injection h with h1 h
  injection h with h5 h6
  injection h5 with h5
  rw [h6] at he ⊢
  exact lnk_err hW0 old path hr hl h2 h3 hx hp hp2 hL he h5.symm
end Go.Proofs.YtfalhnomhidkcaaGreatDoor.DirsKg
namespace Go.Proofs.YtfalhnomhidkcaaGreatDoor.DirsKh
open Go.RowKit
open Byte KeysM TreeM ViewM ViewKm NodeM NodeG NamesM NamesL WalkM WalkF WalkKm DirsV Lst Chg TreeL ViewL WalkL WalkV Vat WalkKa WalkKb DirsK DirsKa DirsKb DirsKc DirsKd
open Own hiding keeps
variable {Rep : RepT} {w : World} {v : Value} {s : Vs} {S D : Nat → Prop}
theorem first_2g (a b : Int) (w : World) (g : Nat) (hg : w.heap.size = g) : Calls Tryz.prog 71 #[.slice (some ⟨g,0,none⟩) 2 2] (w.alloc (.cells #[.int .i64 a,.int .i64 b] 66)) fun e w' => e = .returned (.int .i64 (fst_ [a,b])) ∧ (w.alloc (.cells #[.int .i64 a,.int .i64 b] 66)) = w' := by
 subst hg
 exact first_2 a b w
theorem first_3g (a b c : Int) (w : World) (g : Nat) (hg : w.heap.size = g) : Calls Tryz.prog 71 #[.slice (some ⟨g,0,none⟩) 3 3] (w.alloc (.cells #[.int .i64 a,.int .i64 b,.int .i64 c] 66)) fun e w' => e = .returned (.int .i64 (fst_ [a,b,c])) ∧ (w.alloc (.cells #[.int .i64 a,.int .i64 b,.int .i64 c] 66)) = w' := by
 subst hg
 exact first_3 a b c w
theorem first_2d (a b : Int) (w : World) (g : Nat) (hg : w.heap.size = g) : Calls Tryz.prog 71 #[.slice (some ⟨g,0,none⟩) 2 2] (w.alloc (.cells #[.int .i64 a,.int .i64 b] 66)).drew fun e w' => e = .returned (.int .i64 (fst_ [a,b])) ∧ (w.alloc (.cells #[.int .i64 a,.int .i64 b] 66)).drew = w' := by
 subst hg
 exact first_calls _ 2 2 [a,b] _ ((So.lit erE 66 w (base := w.heap.size) [a,b] #[.int .i64 a,.int .i64 b] 2 rfl rfl (Nat.le_refl _) (by decide)).sl.below ((Below.refl _ _).drew)) (by decide)
theorem first_2b (a b : Int) (w : World) (g : Nat) (hg : w.heap.size = g) : (Calls Tryz.prog 71 #[.slice (some ⟨g,0,none⟩) 2 2] (w.alloc (.cells #[.int .i64 a,.int .i64 b] 66)) fun e w' => e = .returned (.int .i64 (fst_ [a,b])) ∧ (w.alloc (.cells #[.int .i64 a,.int .i64 b] 66)) = w') ∧ (Calls Tryz.prog 71 #[.slice (some ⟨g,0,none⟩) 2 2] (w.alloc (.cells #[.int .i64 a,.int .i64 b] 66)).drew fun e w' => e = .returned (.int .i64 (fst_ [a,b])) ∧ (w.alloc (.cells #[.int .i64 a,.int .i64 b] 66)).drew = w') := ⟨first_2g a b w g hg,first_2d a b w g hg⟩
theorem first_3d (a b c : Int) (w : World) (g : Nat) (hg : w.heap.size = g) : Calls Tryz.prog 71 #[.slice (some ⟨g,0,none⟩) 3 3] (w.alloc (.cells #[.int .i64 a,.int .i64 b,.int .i64 c] 66)).drew fun e w' => e = .returned (.int .i64 (fst_ [a,b,c])) ∧ (w.alloc (.cells #[.int .i64 a,.int .i64 b,.int .i64 c] 66)).drew = w' := by
 subst hg
 exact first_calls _ 3 3 [a,b,c] _ ((So.lit erE 66 w (base := w.heap.size) [a,b,c] #[.int .i64 a,.int .i64 b,.int .i64 c] 3 rfl rfl (Nat.le_refl _) (by decide)).sl.below ((Below.refl _ _).drew)) (by decide)
theorem first_3b (a b c : Int) (w : World) (g : Nat) (hg : w.heap.size = g) : (Calls Tryz.prog 71 #[.slice (some ⟨g,0,none⟩) 3 3] (w.alloc (.cells #[.int .i64 a,.int .i64 b,.int .i64 c] 66)) fun e w' => e = .returned (.int .i64 (fst_ [a,b,c])) ∧ (w.alloc (.cells #[.int .i64 a,.int .i64 b,.int .i64 c] 66)) = w') ∧ (Calls Tryz.prog 71 #[.slice (some ⟨g,0,none⟩) 3 3] (w.alloc (.cells #[.int .i64 a,.int .i64 b,.int .i64 c] 66)).drew fun e w' => e = .returned (.int .i64 (fst_ [a,b,c])) ∧ (w.alloc (.cells #[.int .i64 a,.int .i64 b,.int .i64 c] 66)).drew = w') := ⟨first_3g a b c w g hg,first_3d a b c w g hg⟩
theorem ren_err (hW0 : Wk Rep) (old path : ByteArray) {xd xi xk xl xz xp er : Int} {xn : ByteArray} (hr : Rep w v s S D) (hl : Lim s) (h2 : s.rd.length ≤ 18000) (h3 : s.rg.length ≤ 900) (hx : Mxs w S) (hp : old.size ≤ 100000) (hp2 : path.size ≤ 100000) (hR : findM s.shown old = (⟨xd,xn,xi,⟨xk,xl,xz,xp⟩⟩,er)) (he : er ≠ 0) :
 Calls Tryz.prog 29 #[v,.string old,.string path] w (Ans Rep v s er [] 84 1 S D w) := by
 have A0 := hQ_ (At.start hr)
 have HX := hQ_ hx
 have HS := hQ_ hW0.stays
 have HL := hQ_ hl
 have C0 := hQ_ (aft0 s)
 have HWT := hQ_ when_t
 have HWF := hQ_ when_f
 have HFI := hQ_ (fun w (S D : Nat → Prop) (t : Vs) (hr : Rep w v t S D) (hsm : Sm t s) hl h2 hx => find_c hW0 old hR hr hsm hl h2 hp hx)
 unfold FndC at HFI
 have hsbx := find_bd s.shown old
 have hibx := find_ib s.shown old
 rw [hR] at hsbx hibx
 obtain ⟨x0,x1,x2,x3,x4⟩ := hsbx
 dsimp only at x0 x1 x2 x3 x4 HFI hibx
 have d0 : (er != 0) = true := by simpa using he
 clear hr hl hp hp2 hR hW0 hx
 rcases (show (xi ≠ 1 ∧ xi ≠ 0) ∨ (xi ≠ 1 ∧ xi = 0) ∨ xi = 1 by omega) with h0 | h0 | h0
 ·have d1 : (xi == 1) = false := by simp; omega
  have d2 : (xi == 0) = false := by simp; omega
  clear h0
  go_enter Tryz.func29,Tryz.ntmps29
  go_wp2_with fail
  refine (HFI.out _ _ _ _ A0.out.rep (Aft.sm0 C0.out.1) (lim_aft C0.out.1 HL.out (by omega) (by omega)) (by have := C0.out.1.rd; omega) (HX.out.at_ A0.out).1).mono ?_
  rintro e w1 ⟨s1,S1,D1,rfl,hr,st,hsm,hrd,hrg⟩
  have C1 := hQ_ (aftF C0.out hsm hrd hrg)
  have X1 := hQ_ (Blk.new_ w1 #[.int .u32 xd,.string xn,.int .u32 xi,.int .u8 xk,.int .u32 xl,.int .u32 xz,.int .u32 xp] 65)
  have hbn := bX_ X1.out
  have AQ := A0.out.step HS.out hr st
  have A1 := hQ_ (AQ.own HS.out hbn (Nat.le_refl w1.heap.size) (by simp))
  have f1_X0 := cC7 X1.out
  clear hr st hsm hrd hrg hbn AQ
  have FE2 : fst_ [er,0,0] = er := by unfold fst_; rw [if_neg he]
  have HF2 := hQ_ (first_3b (er) (0) (0) (w1.alloc (.cells #[.int .u32 xd,.string xn,.int .u32 xi,.int .u8 xk,.int .u32 xl,.int .u32 xz,.int .u32 xp] 65)) (w1.heap.size + 1) (by simp))
  rw [FE2] at HF2
  clear FE2
  go_upto_region 2 with (fail)
  go_cut [9] (fun p wx => p = .int .i64 (er) ∧ BL_ (w1.alloc (.cells #[.int .u32 xd,.string xn,.int .u32 xi,.int .u8 xk,.int .u32 xl,.int .u32 xz,.int .u32 xp] 65)) wx)
  case first =>
   go_region_law (first | (go_simp; go_at_call 72; (with_reducible refine (HWT.out _ _).mono ?_); rintro e w9 ⟨rfl,rfl⟩) | (go_simp; go_at_call 72; (with_reducible refine (HWF.out _ _).mono ?_); rintro e w9 ⟨rfl,rfl⟩) | (go_simp; go_at_call 71; (first | (with_reducible refine HF2.out.1.mono ?_) | (with_reducible refine HF2.out.2.mono ?_)); rintro e w9 ⟨rfl,rfl⟩))
   all_goals
    go_wp2_with fail
    go_meet
    exact fB_
  case rest =>
   obtain ⟨rfl,hbc⟩ := hcut
   have A2 := hQ_ (A1.out.below HS.out hbc)
   have X2 := hQ_ (X1.out.below hbc)
   skip
   have f2_X0 := cC7 X2.out
   clear hbc f1_X0
   clear he
   go_wp2_with fail
   go_ret
   exact Ans.ok A2.out ⟨C1.out.1.more (by omega) (by omega),C1.out.2⟩
 ·have d1 : (xi == 1) = false := by simp; omega
  have d2 : (xi == 0) = true := by simp; omega
  clear h0
  go_enter Tryz.func29,Tryz.ntmps29
  go_wp2_with fail
  refine (HFI.out _ _ _ _ A0.out.rep (Aft.sm0 C0.out.1) (lim_aft C0.out.1 HL.out (by omega) (by omega)) (by have := C0.out.1.rd; omega) (HX.out.at_ A0.out).1).mono ?_
  rintro e w3 ⟨s3,S3,D3,rfl,hr,st,hsm,hrd,hrg⟩
  have C3 := hQ_ (aftF C0.out hsm hrd hrg)
  have X3 := hQ_ (Blk.new_ w3 #[.int .u32 xd,.string xn,.int .u32 xi,.int .u8 xk,.int .u32 xl,.int .u32 xz,.int .u32 xp] 65)
  have hbn := bX_ X3.out
  have AQ := A0.out.step HS.out hr st
  have A3 := hQ_ (AQ.own HS.out hbn (Nat.le_refl w3.heap.size) (by simp))
  have f3_X0 := cC7 X3.out
  clear hr st hsm hrd hrg hbn AQ
  have FE4 : fst_ [er,0,10] = er := by unfold fst_; rw [if_neg he]
  have HF4 := hQ_ (first_3b (er) (0) (10) (w3.alloc (.cells #[.int .u32 xd,.string xn,.int .u32 xi,.int .u8 xk,.int .u32 xl,.int .u32 xz,.int .u32 xp] 65)) (w3.heap.size + 1) (by simp))
  rw [FE4] at HF4
  clear FE4
  go_upto_region 2 with (fail)
  go_cut [9] (fun p wx => p = .int .i64 (er) ∧ BL_ (w3.alloc (.cells #[.int .u32 xd,.string xn,.int .u32 xi,.int .u8 xk,.int .u32 xl,.int .u32 xz,.int .u32 xp] 65)) wx)
  case first =>
   go_region_law (first | (go_simp; go_at_call 72; (with_reducible refine (HWT.out _ _).mono ?_); rintro e w9 ⟨rfl,rfl⟩) | (go_simp; go_at_call 72; (with_reducible refine (HWF.out _ _).mono ?_); rintro e w9 ⟨rfl,rfl⟩) | (go_simp; go_at_call 71; (first | (with_reducible refine HF4.out.1.mono ?_) | (with_reducible refine HF4.out.2.mono ?_)); rintro e w9 ⟨rfl,rfl⟩))
   all_goals
    go_wp2_with fail
    go_meet
    exact fB_
  case rest =>
   obtain ⟨rfl,hbc⟩ := hcut
   have A4 := hQ_ (A3.out.below HS.out hbc)
   have X4 := hQ_ (X3.out.below hbc)
   skip
   have f4_X0 := cC7 X4.out
   clear hbc f3_X0
   clear he
   go_wp2_with fail
   go_ret
   exact Ans.ok A4.out ⟨C3.out.1.more (by omega) (by omega),C3.out.2⟩
 ·have d1 : (xi == 1) = true := by simp; omega
  have d2 : (xi == 0) = false := by simp; omega
  clear h0
  go_enter Tryz.func29,Tryz.ntmps29
  go_wp2_with fail
  refine (HFI.out _ _ _ _ A0.out.rep (Aft.sm0 C0.out.1) (lim_aft C0.out.1 HL.out (by omega) (by omega)) (by have := C0.out.1.rd; omega) (HX.out.at_ A0.out).1).mono ?_
  rintro e w5 ⟨s5,S5,D5,rfl,hr,st,hsm,hrd,hrg⟩
  have C5 := hQ_ (aftF C0.out hsm hrd hrg)
  have X5 := hQ_ (Blk.new_ w5 #[.int .u32 xd,.string xn,.int .u32 xi,.int .u8 xk,.int .u32 xl,.int .u32 xz,.int .u32 xp] 65)
  have hbn := bX_ X5.out
  have AQ := A0.out.step HS.out hr st
  have A5 := hQ_ (AQ.own HS.out hbn (Nat.le_refl w5.heap.size) (by simp))
  have f5_X0 := cC7 X5.out
  clear hr st hsm hrd hrg hbn AQ
  have FE6 : fst_ [er,29,0] = er := by unfold fst_; rw [if_neg he]
  have HF6 := hQ_ (first_3b (er) (29) (0) (w5.alloc (.cells #[.int .u32 xd,.string xn,.int .u32 xi,.int .u8 xk,.int .u32 xl,.int .u32 xz,.int .u32 xp] 65)) (w5.heap.size + 1) (by simp))
  rw [FE6] at HF6
  clear FE6
  go_upto_region 2 with (fail)
  go_cut [9] (fun p wx => p = .int .i64 (er) ∧ BL_ (w5.alloc (.cells #[.int .u32 xd,.string xn,.int .u32 xi,.int .u8 xk,.int .u32 xl,.int .u32 xz,.int .u32 xp] 65)) wx)
  case first =>
   go_region_law (first | (go_simp; go_at_call 72; (with_reducible refine (HWT.out _ _).mono ?_); rintro e w9 ⟨rfl,rfl⟩) | (go_simp; go_at_call 72; (with_reducible refine (HWF.out _ _).mono ?_); rintro e w9 ⟨rfl,rfl⟩) | (go_simp; go_at_call 71; (first | (with_reducible refine HF6.out.1.mono ?_) | (with_reducible refine HF6.out.2.mono ?_)); rintro e w9 ⟨rfl,rfl⟩))
   all_goals
    go_wp2_with fail
    go_meet
    exact fB_
  case rest =>
   obtain ⟨rfl,hbc⟩ := hcut
   have A6 := hQ_ (A5.out.below HS.out hbc)
   have X6 := hQ_ (X5.out.below hbc)
   skip
   have f6_X0 := cC7 X6.out
   clear hbc f5_X0
   clear he
   go_wp2_with fail
   go_ret
   exact Ans.ok A6.out ⟨C5.out.1.more (by omega) (by omega),C5.out.2⟩
theorem ren_root (hW0 : Wk Rep) (old path : ByteArray) {xd xi xk xl xz xp er : Int} {xn : ByteArray} (hr : Rep w v s S D) (hl : Lim s) (h2 : s.rd.length ≤ 18000) (h3 : s.rg.length ≤ 900) (hx : Mxs w S) (hp : old.size ≤ 100000) (hp2 : path.size ≤ 100000) (hR : findM s.shown old = (⟨xd,xn,xi,⟨xk,xl,xz,xp⟩⟩,er)) (he : er = 0) (h1 : xi = 1) :
 Calls Tryz.prog 29 #[v,.string old,.string path] w (Ans Rep v s 29 [] 84 1 S D w) := by
 have A0 := hQ_ (At.start hr)
 have HX := hQ_ hx
 have HS := hQ_ hW0.stays
 have HL := hQ_ hl
 have C0 := hQ_ (aft0 s)
 have HWT := hQ_ when_t
 have HWF := hQ_ when_f
 have HFI := hQ_ (fun w (S D : Nat → Prop) (t : Vs) (hr : Rep w v t S D) (hsm : Sm t s) hl h2 hx => find_c hW0 old hR hr hsm hl h2 hp hx)
 unfold FndC at HFI
 have hsbx := find_bd s.shown old
 have hibx := find_ib s.shown old
 rw [hR] at hsbx hibx
 obtain ⟨x0,x1,x2,x3,x4⟩ := hsbx
 dsimp only at x0 x1 x2 x3 x4 HFI hibx
 subst he
 have d1 : (xi == 1) = true := by simpa using h1
 have d2 : (xi == 0) = false := by simp; omega
 clear hr hl hp hp2 hR hW0 hx h1
 go_enter Tryz.func29,Tryz.ntmps29
 go_wp2_with fail
 refine (HFI.out _ _ _ _ A0.out.rep (Aft.sm0 C0.out.1) (lim_aft C0.out.1 HL.out (by omega) (by omega)) (by have := C0.out.1.rd; omega) (HX.out.at_ A0.out).1).mono ?_
 rintro e w1 ⟨s1,S1,D1,rfl,hr,st,hsm,hrd,hrg⟩
 have C1 := hQ_ (aftF C0.out hsm hrd hrg)
 have X1 := hQ_ (Blk.new_ w1 #[.int .u32 xd,.string xn,.int .u32 xi,.int .u8 xk,.int .u32 xl,.int .u32 xz,.int .u32 xp] 65)
 have hbn := bX_ X1.out
 have AQ := A0.out.step HS.out hr st
 have A1 := hQ_ (AQ.own HS.out hbn (Nat.le_refl w1.heap.size) (by simp))
 have f1_X0 := cC7 X1.out
 clear hr st hsm hrd hrg hbn AQ
 have FE2 : fst_ [0,29,0] = 29 := rfl
 have HF2 := hQ_ (first_3b (0) (29) (0) (w1.alloc (.cells #[.int .u32 xd,.string xn,.int .u32 xi,.int .u8 xk,.int .u32 xl,.int .u32 xz,.int .u32 xp] 65)) (w1.heap.size + 1) (by simp))
 rw [FE2] at HF2
 clear FE2
 go_upto_region 2 with (fail)
 go_cut [9] (fun p wx => p = .int .i64 (29) ∧ BL_ (w1.alloc (.cells #[.int .u32 xd,.string xn,.int .u32 xi,.int .u8 xk,.int .u32 xl,.int .u32 xz,.int .u32 xp] 65)) wx)
 case first =>
  go_region_law (first | (go_simp; go_at_call 72; (with_reducible refine (HWT.out _ _).mono ?_); rintro e w9 ⟨rfl,rfl⟩) | (go_simp; go_at_call 72; (with_reducible refine (HWF.out _ _).mono ?_); rintro e w9 ⟨rfl,rfl⟩) | (go_simp; go_at_call 71; (first | (with_reducible refine HF2.out.1.mono ?_) | (with_reducible refine HF2.out.2.mono ?_)); rintro e w9 ⟨rfl,rfl⟩))
  all_goals
   go_wp2_with fail
   go_meet
   exact fB_
 case rest =>
  obtain ⟨rfl,hbc⟩ := hcut
  have A2 := hQ_ (A1.out.below HS.out hbc)
  have X2 := hQ_ (X1.out.below hbc)
  skip
  have f2_X0 := cC7 X2.out
  clear hbc f1_X0
  go_wp2_with fail
  go_ret
  exact Ans.ok A2.out ⟨C1.out.1.more (by omega) (by omega),C1.out.2⟩
theorem ren_none (hW0 : Wk Rep) (old path : ByteArray) {xd xi xk xl xz xp er : Int} {xn : ByteArray} (hr : Rep w v s S D) (hl : Lim s) (h2 : s.rd.length ≤ 18000) (h3 : s.rg.length ≤ 900) (hx : Mxs w S) (hp : old.size ≤ 100000) (hp2 : path.size ≤ 100000) (hR : findM s.shown old = (⟨xd,xn,xi,⟨xk,xl,xz,xp⟩⟩,er)) (he : er = 0) (h0 : xi = 0) :
 Calls Tryz.prog 29 #[v,.string old,.string path] w (Ans Rep v s 10 [] 84 1 S D w) := by
 have A0 := hQ_ (At.start hr)
 have HX := hQ_ hx
 have HS := hQ_ hW0.stays
 have HL := hQ_ hl
 have C0 := hQ_ (aft0 s)
 have HWT := hQ_ when_t
 have HWF := hQ_ when_f
 have HFI := hQ_ (fun w (S D : Nat → Prop) (t : Vs) (hr : Rep w v t S D) (hsm : Sm t s) hl h2 hx => find_c hW0 old hR hr hsm hl h2 hp hx)
 unfold FndC at HFI
 have hsbx := find_bd s.shown old
 have hibx := find_ib s.shown old
 rw [hR] at hsbx hibx
 obtain ⟨x0,x1,x2,x3,x4⟩ := hsbx
 dsimp only at x0 x1 x2 x3 x4 HFI hibx
 subst he
 have d1 : (xi == 1) = false := by simp; omega
 have d2 : (xi == 0) = true := by simpa using h0
 clear hr hl hp hp2 hR hW0 hx h0
 go_enter Tryz.func29,Tryz.ntmps29
 go_wp2_with fail
 refine (HFI.out _ _ _ _ A0.out.rep (Aft.sm0 C0.out.1) (lim_aft C0.out.1 HL.out (by omega) (by omega)) (by have := C0.out.1.rd; omega) (HX.out.at_ A0.out).1).mono ?_
 rintro e w1 ⟨s1,S1,D1,rfl,hr,st,hsm,hrd,hrg⟩
 have C1 := hQ_ (aftF C0.out hsm hrd hrg)
 have X1 := hQ_ (Blk.new_ w1 #[.int .u32 xd,.string xn,.int .u32 xi,.int .u8 xk,.int .u32 xl,.int .u32 xz,.int .u32 xp] 65)
 have hbn := bX_ X1.out
 have AQ := A0.out.step HS.out hr st
 have A1 := hQ_ (AQ.own HS.out hbn (Nat.le_refl w1.heap.size) (by simp))
 have f1_X0 := cC7 X1.out
 clear hr st hsm hrd hrg hbn AQ
 have FE2 : fst_ [0,0,10] = 10 := rfl
 have HF2 := hQ_ (first_3b (0) (0) (10) (w1.alloc (.cells #[.int .u32 xd,.string xn,.int .u32 xi,.int .u8 xk,.int .u32 xl,.int .u32 xz,.int .u32 xp] 65)) (w1.heap.size + 1) (by simp))
 rw [FE2] at HF2
 clear FE2
 go_upto_region 2 with (fail)
 go_cut [9] (fun p wx => p = .int .i64 (10) ∧ BL_ (w1.alloc (.cells #[.int .u32 xd,.string xn,.int .u32 xi,.int .u8 xk,.int .u32 xl,.int .u32 xz,.int .u32 xp] 65)) wx)
 case first =>
  go_region_law (first | (go_simp; go_at_call 72; (with_reducible refine (HWT.out _ _).mono ?_); rintro e w9 ⟨rfl,rfl⟩) | (go_simp; go_at_call 72; (with_reducible refine (HWF.out _ _).mono ?_); rintro e w9 ⟨rfl,rfl⟩) | (go_simp; go_at_call 71; (first | (with_reducible refine HF2.out.1.mono ?_) | (with_reducible refine HF2.out.2.mono ?_)); rintro e w9 ⟨rfl,rfl⟩))
  all_goals
   go_wp2_with fail
   go_meet
   exact fB_
 case rest =>
  obtain ⟨rfl,hbc⟩ := hcut
  have A2 := hQ_ (A1.out.below HS.out hbc)
  have X2 := hQ_ (X1.out.below hbc)
  skip
  have f2_X0 := cC7 X2.out
  clear hbc f1_X0
  go_wp2_with fail
  go_ret
  exact Ans.ok A2.out ⟨C1.out.1.more (by omega) (by omega),C1.out.2⟩
theorem ren_err2_0 (hW0 : Wk Rep) (old path : ByteArray) {xd xi xk xl xz xp er : Int} {xn : ByteArray} {yd yi yk yl yz yp er2 : Int} {yn : ByteArray} (hr : Rep w v s S D) (hl : Lim s) (h2 : s.rd.length ≤ 18000) (h3 : s.rg.length ≤ 900) (hx : Mxs w S) (hp : old.size ≤ 100000) (hp2 : path.size ≤ 100000) (hR : findM s.shown old = (⟨xd,xn,xi,⟨xk,xl,xz,xp⟩⟩,er)) (hR2 : findM s.shown path = (⟨yd,yn,yi,⟨yk,yl,yz,yp⟩⟩,er2)) (he : er = 0) (h0 : xi ≠ 0) (h1 : xi ≠ 1) (he2 : er2 ≠ 0) (h3 : yi ≠ 1) :
 Calls Tryz.prog 29 #[v,.string old,.string path] w (Ans Rep v s er2 [] 84 1 S D w) := by
 have A0 := hQ_ (At.start hr)
 have HX := hQ_ hx
 have HS := hQ_ hW0.stays
 have HL := hQ_ hl
 have C0 := hQ_ (aft0 s)
 have HWT := hQ_ when_t
 have HWF := hQ_ when_f
 have HFI := hQ_ (fun w (S D : Nat → Prop) (t : Vs) (hr : Rep w v t S D) (hsm : Sm t s) hl h2 hx => find_c hW0 old hR hr hsm hl h2 hp hx)
 unfold FndC at HFI
 have hsbx := find_bd s.shown old
 have hibx := find_ib s.shown old
 rw [hR] at hsbx hibx
 obtain ⟨x0,x1,x2,x3,x4⟩ := hsbx
 dsimp only at x0 x1 x2 x3 x4 HFI hibx
 have HFJ := hQ_ (fun w (S D : Nat → Prop) (t : Vs) (hr : Rep w v t S D) (hsm : Sm t s) hl h2 hx => find_c hW0 path hR2 hr hsm hl h2 hp2 hx)
 unfold FndC at HFJ
 have hsby := find_bd s.shown path
 have hiby := find_ib s.shown path
 rw [hR2] at hsby hiby
 obtain ⟨y0,y1,y2,y3,y4⟩ := hsby
 dsimp only at y0 y1 y2 y3 y4 HFJ hiby
 subst he
 have d1 : (xi == 1) = false := by simpa using h1
 have d2 : (xi == 0) = false := by simpa using h0
 have d3 : (er2 != 0) = true := by simpa using he2
 have d4 : (yi == 1) = false := by simpa using h3
 clear hr hl hp hp2 hR hW0 hR2 hx h0 h1 h3
 go_enter Tryz.func29,Tryz.ntmps29
 go_wp2_with fail
 refine (HFI.out _ _ _ _ A0.out.rep (Aft.sm0 C0.out.1) (lim_aft C0.out.1 HL.out (by omega) (by omega)) (by have := C0.out.1.rd; omega) (HX.out.at_ A0.out).1).mono ?_
 rintro e w1 ⟨s1,S1,D1,rfl,hr,st,hsm,hrd,hrg⟩
 have C1 := hQ_ (aftF C0.out hsm hrd hrg)
 have X1 := hQ_ (Blk.new_ w1 #[.int .u32 xd,.string xn,.int .u32 xi,.int .u8 xk,.int .u32 xl,.int .u32 xz,.int .u32 xp] 65)
 have hbn := bX_ X1.out
 have AQ := A0.out.step HS.out hr st
 have A1 := hQ_ (AQ.own HS.out hbn (Nat.le_refl w1.heap.size) (by simp))
 have f1_X0 := cC7 X1.out
 clear hr st hsm hrd hrg hbn AQ
 have FE2 : fst_ [0,0,0] = 0 := rfl
 have HF2 := hQ_ (first_3b (0) (0) (0) (w1.alloc (.cells #[.int .u32 xd,.string xn,.int .u32 xi,.int .u8 xk,.int .u32 xl,.int .u32 xz,.int .u32 xp] 65)) (w1.heap.size + 1) (by simp))
 rw [FE2] at HF2
 clear FE2
 go_upto_region 2 with (fail)
 go_cut [9] (fun p wx => p = .int .i64 (0) ∧ BL_ (w1.alloc (.cells #[.int .u32 xd,.string xn,.int .u32 xi,.int .u8 xk,.int .u32 xl,.int .u32 xz,.int .u32 xp] 65)) wx)
 case first =>
  go_region_law (first | (go_simp; go_at_call 72; (with_reducible refine (HWT.out _ _).mono ?_); rintro e w9 ⟨rfl,rfl⟩) | (go_simp; go_at_call 72; (with_reducible refine (HWF.out _ _).mono ?_); rintro e w9 ⟨rfl,rfl⟩) | (go_simp; go_at_call 71; (first | (with_reducible refine HF2.out.1.mono ?_) | (with_reducible refine HF2.out.2.mono ?_)); rintro e w9 ⟨rfl,rfl⟩))
  all_goals
   go_wp2_with fail
   go_meet
   exact fB_
 case rest =>
  obtain ⟨rfl,hbc⟩ := hcut
  have A2 := hQ_ (A1.out.below HS.out hbc)
  have X2 := hQ_ (X1.out.below hbc)
  skip
  have f2_X0 := cC7 X2.out
  clear hbc f1_X0
  go_wp2_with fail
  refine (HFJ.out _ _ _ _ A2.out.rep (Aft.sm0 C1.out.1) (lim_aft C1.out.1 HL.out (by omega) (by omega)) (by have := C1.out.1.rd; omega) (HX.out.at_ A2.out).1).mono ?_
  rintro e w3 ⟨s3,S3,D3,rfl,hr,st,hsm,hrd,hrg⟩
  have C3 := hQ_ (aftF C1.out hsm hrd hrg)
  have Y3 := hQ_ (Blk.new_ w3 #[.int .u32 yd,.string yn,.int .u32 yi,.int .u8 yk,.int .u32 yl,.int .u32 yz,.int .u32 yp] 65)
  have hbn := bX_ Y3.out
  have AQ := A2.out.step HS.out hr st
  have A3 := hQ_ (AQ.own HS.out hbn (Nat.le_refl w3.heap.size) (by simp))
  have X3 := hQ_ ((A2.out.blk HS.out X2.out (.inr rfl) st).below hbn)
  have f3_X0 := cC7 X3.out
  have f3_Y0 := cC7 Y3.out
  clear hr st hsm hrd hrg hbn AQ f2_X0
  have FE4 : fst_ [er2,0] = er2 := by unfold fst_; rw [if_neg he2]
  have HF4 := hQ_ (first_2b (er2) (0) (w3.alloc (.cells #[.int .u32 yd,.string yn,.int .u32 yi,.int .u8 yk,.int .u32 yl,.int .u32 yz,.int .u32 yp] 65)) (w3.heap.size + 1) (by simp))
  rw [FE4] at HF4
  clear FE4
  go_upto_region 6 with (fail)
  go_cut [11] (fun p wx => p = .int .i64 (er2) ∧ BL_ (w3.alloc (.cells #[.int .u32 yd,.string yn,.int .u32 yi,.int .u8 yk,.int .u32 yl,.int .u32 yz,.int .u32 yp] 65)) wx)
  case first =>
   go_wp2_with (first | (go_at_call 72; (with_reducible refine (HWT.out _ _).mono ?_); rintro e w9 ⟨rfl,rfl⟩) | (go_at_call 72; (with_reducible refine (HWF.out _ _).mono ?_); rintro e w9 ⟨rfl,rfl⟩) | (go_at_call 71; (with_reducible refine HF4.out.1.mono ?_); rintro e w9 ⟨rfl,rfl⟩))
   all_goals
    go_meet
    exact fB_
  case rest =>
   obtain ⟨rfl,hbc⟩ := hcut
   have A4 := hQ_ (A3.out.below HS.out hbc)
   have X4 := hQ_ (X3.out.below hbc)
   have Y4 := hQ_ (Y3.out.below hbc)
   skip
   have f4_X0 := cC7 X4.out
   have f4_Y0 := cC7 Y4.out
   clear hbc f3_X0 f3_Y0
   clear he2
   go_wp2_with fail
   go_ret
   exact Ans.ok A4.out ⟨C3.out.1.more (by omega) (by omega),C3.out.2⟩
theorem ren_err2_1 (hW0 : Wk Rep) (old path : ByteArray) {xd xi xk xl xz xp er : Int} {xn : ByteArray} {yd yi yk yl yz yp er2 : Int} {yn : ByteArray} (hr : Rep w v s S D) (hl : Lim s) (h2 : s.rd.length ≤ 18000) (h3 : s.rg.length ≤ 900) (hx : Mxs w S) (hp : old.size ≤ 100000) (hp2 : path.size ≤ 100000) (hR : findM s.shown old = (⟨xd,xn,xi,⟨xk,xl,xz,xp⟩⟩,er)) (hR2 : findM s.shown path = (⟨yd,yn,yi,⟨yk,yl,yz,yp⟩⟩,er2)) (he : er = 0) (h0 : xi ≠ 0) (h1 : xi ≠ 1) (he2 : er2 ≠ 0) (h3 : yi = 1) :
 Calls Tryz.prog 29 #[v,.string old,.string path] w (Ans Rep v s er2 [] 84 1 S D w) := by
 have A0 := hQ_ (At.start hr)
 have HX := hQ_ hx
 have HS := hQ_ hW0.stays
 have HL := hQ_ hl
 have C0 := hQ_ (aft0 s)
 have HWT := hQ_ when_t
 have HWF := hQ_ when_f
 have HFI := hQ_ (fun w (S D : Nat → Prop) (t : Vs) (hr : Rep w v t S D) (hsm : Sm t s) hl h2 hx => find_c hW0 old hR hr hsm hl h2 hp hx)
 unfold FndC at HFI
 have hsbx := find_bd s.shown old
 have hibx := find_ib s.shown old
 rw [hR] at hsbx hibx
 obtain ⟨x0,x1,x2,x3,x4⟩ := hsbx
 dsimp only at x0 x1 x2 x3 x4 HFI hibx
 have HFJ := hQ_ (fun w (S D : Nat → Prop) (t : Vs) (hr : Rep w v t S D) (hsm : Sm t s) hl h2 hx => find_c hW0 path hR2 hr hsm hl h2 hp2 hx)
 unfold FndC at HFJ
 have hsby := find_bd s.shown path
 have hiby := find_ib s.shown path
 rw [hR2] at hsby hiby
 obtain ⟨y0,y1,y2,y3,y4⟩ := hsby
 dsimp only at y0 y1 y2 y3 y4 HFJ hiby
 subst he
 have d1 : (xi == 1) = false := by simpa using h1
 have d2 : (xi == 0) = false := by simpa using h0
 have d3 : (er2 != 0) = true := by simpa using he2
 have d4 : (yi == 1) = true := by simpa using h3
 clear hr hl hp hp2 hR hW0 hR2 hx h0 h1 h3
 go_enter Tryz.func29,Tryz.ntmps29
 go_wp2_with fail
 refine (HFI.out _ _ _ _ A0.out.rep (Aft.sm0 C0.out.1) (lim_aft C0.out.1 HL.out (by omega) (by omega)) (by have := C0.out.1.rd; omega) (HX.out.at_ A0.out).1).mono ?_
 rintro e w1 ⟨s1,S1,D1,rfl,hr,st,hsm,hrd,hrg⟩
 have C1 := hQ_ (aftF C0.out hsm hrd hrg)
 have X1 := hQ_ (Blk.new_ w1 #[.int .u32 xd,.string xn,.int .u32 xi,.int .u8 xk,.int .u32 xl,.int .u32 xz,.int .u32 xp] 65)
 have hbn := bX_ X1.out
 have AQ := A0.out.step HS.out hr st
 have A1 := hQ_ (AQ.own HS.out hbn (Nat.le_refl w1.heap.size) (by simp))
 have f1_X0 := cC7 X1.out
 clear hr st hsm hrd hrg hbn AQ
 have FE2 : fst_ [0,0,0] = 0 := rfl
 have HF2 := hQ_ (first_3b (0) (0) (0) (w1.alloc (.cells #[.int .u32 xd,.string xn,.int .u32 xi,.int .u8 xk,.int .u32 xl,.int .u32 xz,.int .u32 xp] 65)) (w1.heap.size + 1) (by simp))
 rw [FE2] at HF2
 clear FE2
 go_upto_region 2 with (fail)
 go_cut [9] (fun p wx => p = .int .i64 (0) ∧ BL_ (w1.alloc (.cells #[.int .u32 xd,.string xn,.int .u32 xi,.int .u8 xk,.int .u32 xl,.int .u32 xz,.int .u32 xp] 65)) wx)
 case first =>
  go_region_law (first | (go_simp; go_at_call 72; (with_reducible refine (HWT.out _ _).mono ?_); rintro e w9 ⟨rfl,rfl⟩) | (go_simp; go_at_call 72; (with_reducible refine (HWF.out _ _).mono ?_); rintro e w9 ⟨rfl,rfl⟩) | (go_simp; go_at_call 71; (first | (with_reducible refine HF2.out.1.mono ?_) | (with_reducible refine HF2.out.2.mono ?_)); rintro e w9 ⟨rfl,rfl⟩))
  all_goals
   go_wp2_with fail
   go_meet
   exact fB_
 case rest =>
  obtain ⟨rfl,hbc⟩ := hcut
  have A2 := hQ_ (A1.out.below HS.out hbc)
  have X2 := hQ_ (X1.out.below hbc)
  skip
  have f2_X0 := cC7 X2.out
  clear hbc f1_X0
  go_wp2_with fail
  refine (HFJ.out _ _ _ _ A2.out.rep (Aft.sm0 C1.out.1) (lim_aft C1.out.1 HL.out (by omega) (by omega)) (by have := C1.out.1.rd; omega) (HX.out.at_ A2.out).1).mono ?_
  rintro e w3 ⟨s3,S3,D3,rfl,hr,st,hsm,hrd,hrg⟩
  have C3 := hQ_ (aftF C1.out hsm hrd hrg)
  have Y3 := hQ_ (Blk.new_ w3 #[.int .u32 yd,.string yn,.int .u32 yi,.int .u8 yk,.int .u32 yl,.int .u32 yz,.int .u32 yp] 65)
  have hbn := bX_ Y3.out
  have AQ := A2.out.step HS.out hr st
  have A3 := hQ_ (AQ.own HS.out hbn (Nat.le_refl w3.heap.size) (by simp))
  have X3 := hQ_ ((A2.out.blk HS.out X2.out (.inr rfl) st).below hbn)
  have f3_X0 := cC7 X3.out
  have f3_Y0 := cC7 Y3.out
  clear hr st hsm hrd hrg hbn AQ f2_X0
  have FE4 : fst_ [er2,29] = er2 := by unfold fst_; rw [if_neg he2]
  have HF4 := hQ_ (first_2b (er2) (29) (w3.alloc (.cells #[.int .u32 yd,.string yn,.int .u32 yi,.int .u8 yk,.int .u32 yl,.int .u32 yz,.int .u32 yp] 65)) (w3.heap.size + 1) (by simp))
  rw [FE4] at HF4
  clear FE4
  go_upto_region 6 with (fail)
  go_cut [11] (fun p wx => p = .int .i64 (er2) ∧ BL_ (w3.alloc (.cells #[.int .u32 yd,.string yn,.int .u32 yi,.int .u8 yk,.int .u32 yl,.int .u32 yz,.int .u32 yp] 65)) wx)
  case first =>
   go_wp2_with (first | (go_at_call 72; (with_reducible refine (HWT.out _ _).mono ?_); rintro e w9 ⟨rfl,rfl⟩) | (go_at_call 72; (with_reducible refine (HWF.out _ _).mono ?_); rintro e w9 ⟨rfl,rfl⟩) | (go_at_call 71; (with_reducible refine HF4.out.1.mono ?_); rintro e w9 ⟨rfl,rfl⟩))
   all_goals
    go_meet
    exact fB_
  case rest =>
   obtain ⟨rfl,hbc⟩ := hcut
   have A4 := hQ_ (A3.out.below HS.out hbc)
   have X4 := hQ_ (X3.out.below hbc)
   have Y4 := hQ_ (Y3.out.below hbc)
   skip
   have f4_X0 := cC7 X4.out
   have f4_Y0 := cC7 Y4.out
   clear hbc f3_X0 f3_Y0
   clear he2
   go_wp2_with fail
   go_ret
   exact Ans.ok A4.out ⟨C3.out.1.more (by omega) (by omega),C3.out.2⟩
theorem ren_root2 (hW0 : Wk Rep) (old path : ByteArray) {xd xi xk xl xz xp er : Int} {xn : ByteArray} {yd yi yk yl yz yp er2 : Int} {yn : ByteArray} (hr : Rep w v s S D) (hl : Lim s) (h2 : s.rd.length ≤ 18000) (h3 : s.rg.length ≤ 900) (hx : Mxs w S) (hp : old.size ≤ 100000) (hp2 : path.size ≤ 100000) (hR : findM s.shown old = (⟨xd,xn,xi,⟨xk,xl,xz,xp⟩⟩,er)) (hR2 : findM s.shown path = (⟨yd,yn,yi,⟨yk,yl,yz,yp⟩⟩,er2)) (he : er = 0) (h0 : xi ≠ 0) (h1 : xi ≠ 1) (he2 : er2 = 0) (h3 : yi = 1) :
 Calls Tryz.prog 29 #[v,.string old,.string path] w (Ans Rep v s 29 [] 84 1 S D w) := by
 have A0 := hQ_ (At.start hr)
 have HX := hQ_ hx
 have HS := hQ_ hW0.stays
 have HL := hQ_ hl
 have C0 := hQ_ (aft0 s)
 have HWT := hQ_ when_t
 have HWF := hQ_ when_f
 have HFI := hQ_ (fun w (S D : Nat → Prop) (t : Vs) (hr : Rep w v t S D) (hsm : Sm t s) hl h2 hx => find_c hW0 old hR hr hsm hl h2 hp hx)
 unfold FndC at HFI
 have hsbx := find_bd s.shown old
 have hibx := find_ib s.shown old
 rw [hR] at hsbx hibx
 obtain ⟨x0,x1,x2,x3,x4⟩ := hsbx
 dsimp only at x0 x1 x2 x3 x4 HFI hibx
 have HFJ := hQ_ (fun w (S D : Nat → Prop) (t : Vs) (hr : Rep w v t S D) (hsm : Sm t s) hl h2 hx => find_c hW0 path hR2 hr hsm hl h2 hp2 hx)
 unfold FndC at HFJ
 have hsby := find_bd s.shown path
 have hiby := find_ib s.shown path
 rw [hR2] at hsby hiby
 obtain ⟨y0,y1,y2,y3,y4⟩ := hsby
 dsimp only at y0 y1 y2 y3 y4 HFJ hiby
 subst he
 have d1 : (xi == 1) = false := by simpa using h1
 have d2 : (xi == 0) = false := by simpa using h0
 subst he2
 have d4 : (yi == 1) = true := by simpa using h3
 clear hr hl hp hp2 hR hW0 hR2 hx h0 h1 h3
 go_enter Tryz.func29,Tryz.ntmps29
 go_wp2_with fail
 refine (HFI.out _ _ _ _ A0.out.rep (Aft.sm0 C0.out.1) (lim_aft C0.out.1 HL.out (by omega) (by omega)) (by have := C0.out.1.rd; omega) (HX.out.at_ A0.out).1).mono ?_
 rintro e w1 ⟨s1,S1,D1,rfl,hr,st,hsm,hrd,hrg⟩
 have C1 := hQ_ (aftF C0.out hsm hrd hrg)
 have X1 := hQ_ (Blk.new_ w1 #[.int .u32 xd,.string xn,.int .u32 xi,.int .u8 xk,.int .u32 xl,.int .u32 xz,.int .u32 xp] 65)
 have hbn := bX_ X1.out
 have AQ := A0.out.step HS.out hr st
 have A1 := hQ_ (AQ.own HS.out hbn (Nat.le_refl w1.heap.size) (by simp))
 have f1_X0 := cC7 X1.out
 clear hr st hsm hrd hrg hbn AQ
 have FE2 : fst_ [0,0,0] = 0 := rfl
 have HF2 := hQ_ (first_3b (0) (0) (0) (w1.alloc (.cells #[.int .u32 xd,.string xn,.int .u32 xi,.int .u8 xk,.int .u32 xl,.int .u32 xz,.int .u32 xp] 65)) (w1.heap.size + 1) (by simp))
 rw [FE2] at HF2
 clear FE2
 go_upto_region 2 with (fail)
 go_cut [9] (fun p wx => p = .int .i64 (0) ∧ BL_ (w1.alloc (.cells #[.int .u32 xd,.string xn,.int .u32 xi,.int .u8 xk,.int .u32 xl,.int .u32 xz,.int .u32 xp] 65)) wx)
 case first =>
  go_region_law (first | (go_simp; go_at_call 72; (with_reducible refine (HWT.out _ _).mono ?_); rintro e w9 ⟨rfl,rfl⟩) | (go_simp; go_at_call 72; (with_reducible refine (HWF.out _ _).mono ?_); rintro e w9 ⟨rfl,rfl⟩) | (go_simp; go_at_call 71; (first | (with_reducible refine HF2.out.1.mono ?_) | (with_reducible refine HF2.out.2.mono ?_)); rintro e w9 ⟨rfl,rfl⟩))
  all_goals
   go_wp2_with fail
   go_meet
   exact fB_
 case rest =>
  obtain ⟨rfl,hbc⟩ := hcut
  have A2 := hQ_ (A1.out.below HS.out hbc)
  have X2 := hQ_ (X1.out.below hbc)
  skip
  have f2_X0 := cC7 X2.out
  clear hbc f1_X0
  go_wp2_with fail
  refine (HFJ.out _ _ _ _ A2.out.rep (Aft.sm0 C1.out.1) (lim_aft C1.out.1 HL.out (by omega) (by omega)) (by have := C1.out.1.rd; omega) (HX.out.at_ A2.out).1).mono ?_
  rintro e w3 ⟨s3,S3,D3,rfl,hr,st,hsm,hrd,hrg⟩
  have C3 := hQ_ (aftF C1.out hsm hrd hrg)
  have Y3 := hQ_ (Blk.new_ w3 #[.int .u32 yd,.string yn,.int .u32 yi,.int .u8 yk,.int .u32 yl,.int .u32 yz,.int .u32 yp] 65)
  have hbn := bX_ Y3.out
  have AQ := A2.out.step HS.out hr st
  have A3 := hQ_ (AQ.own HS.out hbn (Nat.le_refl w3.heap.size) (by simp))
  have X3 := hQ_ ((A2.out.blk HS.out X2.out (.inr rfl) st).below hbn)
  have f3_X0 := cC7 X3.out
  have f3_Y0 := cC7 Y3.out
  clear hr st hsm hrd hrg hbn AQ f2_X0
  have FE4 : fst_ [0,29] = 29 := rfl
  have HF4 := hQ_ (first_2b (0) (29) (w3.alloc (.cells #[.int .u32 yd,.string yn,.int .u32 yi,.int .u8 yk,.int .u32 yl,.int .u32 yz,.int .u32 yp] 65)) (w3.heap.size + 1) (by simp))
  rw [FE4] at HF4
  clear FE4
  go_upto_region 6 with (fail)
  go_cut [11] (fun p wx => p = .int .i64 (29) ∧ BL_ (w3.alloc (.cells #[.int .u32 yd,.string yn,.int .u32 yi,.int .u8 yk,.int .u32 yl,.int .u32 yz,.int .u32 yp] 65)) wx)
  case first =>
   go_wp2_with (first | (go_at_call 72; (with_reducible refine (HWT.out _ _).mono ?_); rintro e w9 ⟨rfl,rfl⟩) | (go_at_call 72; (with_reducible refine (HWF.out _ _).mono ?_); rintro e w9 ⟨rfl,rfl⟩) | (go_at_call 71; (with_reducible refine HF4.out.1.mono ?_); rintro e w9 ⟨rfl,rfl⟩))
   all_goals
    go_meet
    exact fB_
  case rest =>
   obtain ⟨rfl,hbc⟩ := hcut
   have A4 := hQ_ (A3.out.below HS.out hbc)
   have X4 := hQ_ (X3.out.below hbc)
   have Y4 := hQ_ (Y3.out.below hbc)
   skip
   have f4_X0 := cC7 X4.out
   have f4_Y0 := cC7 Y4.out
   clear hbc f3_X0 f3_Y0
   go_wp2_with fail
   go_ret
   exact Ans.ok A4.out ⟨C3.out.1.more (by omega) (by omega),C3.out.2⟩
theorem ren_same (hW0 : Wk Rep) (old path : ByteArray) {xd xi xk xl xz xp er : Int} {xn : ByteArray} {yd yi yk yl yz yp er2 : Int} {yn : ByteArray} (hr : Rep w v s S D) (hl : Lim s) (h2 : s.rd.length ≤ 18000) (h3 : s.rg.length ≤ 900) (hx : Mxs w S) (hp : old.size ≤ 100000) (hp2 : path.size ≤ 100000) (hR : findM s.shown old = (⟨xd,xn,xi,⟨xk,xl,xz,xp⟩⟩,er)) (hR2 : findM s.shown path = (⟨yd,yn,yi,⟨yk,yl,yz,yp⟩⟩,er2)) (he : er = 0) (h0 : xi ≠ 0) (h1 : xi ≠ 1) (he2 : er2 = 0) (h3 : yi ≠ 1) (h4 : xi = yi) :
 Calls Tryz.prog 29 #[v,.string old,.string path] w (Ans Rep v s 0 [] 84 1 S D w) := by
 have A0 := hQ_ (At.start hr)
 have HX := hQ_ hx
 have HS := hQ_ hW0.stays
 have HL := hQ_ hl
 have C0 := hQ_ (aft0 s)
 have HWT := hQ_ when_t
 have HWF := hQ_ when_f
 have HFI := hQ_ (fun w (S D : Nat → Prop) (t : Vs) (hr : Rep w v t S D) (hsm : Sm t s) hl h2 hx => find_c hW0 old hR hr hsm hl h2 hp hx)
 unfold FndC at HFI
 have hsbx := find_bd s.shown old
 have hibx := find_ib s.shown old
 rw [hR] at hsbx hibx
 obtain ⟨x0,x1,x2,x3,x4⟩ := hsbx
 dsimp only at x0 x1 x2 x3 x4 HFI hibx
 have HFJ := hQ_ (fun w (S D : Nat → Prop) (t : Vs) (hr : Rep w v t S D) (hsm : Sm t s) hl h2 hx => find_c hW0 path hR2 hr hsm hl h2 hp2 hx)
 unfold FndC at HFJ
 have hsby := find_bd s.shown path
 have hiby := find_ib s.shown path
 rw [hR2] at hsby hiby
 obtain ⟨y0,y1,y2,y3,y4⟩ := hsby
 dsimp only at y0 y1 y2 y3 y4 HFJ hiby
 subst he
 have d1 : (xi == 1) = false := by simpa using h1
 have d2 : (xi == 0) = false := by simpa using h0
 subst he2
 have d4 : (yi == 1) = false := by simpa using h3
 have d5 : (xi == yi) = true := by simpa using h4
 clear hr hl hp hp2 hR hW0 hR2 hx h0 h1 h3 h4
 go_enter Tryz.func29,Tryz.ntmps29
 go_wp2_with fail
 refine (HFI.out _ _ _ _ A0.out.rep (Aft.sm0 C0.out.1) (lim_aft C0.out.1 HL.out (by omega) (by omega)) (by have := C0.out.1.rd; omega) (HX.out.at_ A0.out).1).mono ?_
 rintro e w1 ⟨s1,S1,D1,rfl,hr,st,hsm,hrd,hrg⟩
 have C1 := hQ_ (aftF C0.out hsm hrd hrg)
 have X1 := hQ_ (Blk.new_ w1 #[.int .u32 xd,.string xn,.int .u32 xi,.int .u8 xk,.int .u32 xl,.int .u32 xz,.int .u32 xp] 65)
 have hbn := bX_ X1.out
 have AQ := A0.out.step HS.out hr st
 have A1 := hQ_ (AQ.own HS.out hbn (Nat.le_refl w1.heap.size) (by simp))
 have f1_X0 := cC7 X1.out
 clear hr st hsm hrd hrg hbn AQ
 have FE2 : fst_ [0,0,0] = 0 := rfl
 have HF2 := hQ_ (first_3b (0) (0) (0) (w1.alloc (.cells #[.int .u32 xd,.string xn,.int .u32 xi,.int .u8 xk,.int .u32 xl,.int .u32 xz,.int .u32 xp] 65)) (w1.heap.size + 1) (by simp))
 rw [FE2] at HF2
 clear FE2
 go_upto_region 2 with (fail)
 go_cut [9] (fun p wx => p = .int .i64 (0) ∧ BL_ (w1.alloc (.cells #[.int .u32 xd,.string xn,.int .u32 xi,.int .u8 xk,.int .u32 xl,.int .u32 xz,.int .u32 xp] 65)) wx)
 case first =>
  go_region_law (first | (go_simp; go_at_call 72; (with_reducible refine (HWT.out _ _).mono ?_); rintro e w9 ⟨rfl,rfl⟩) | (go_simp; go_at_call 72; (with_reducible refine (HWF.out _ _).mono ?_); rintro e w9 ⟨rfl,rfl⟩) | (go_simp; go_at_call 71; (first | (with_reducible refine HF2.out.1.mono ?_) | (with_reducible refine HF2.out.2.mono ?_)); rintro e w9 ⟨rfl,rfl⟩))
  all_goals
   go_wp2_with fail
   go_meet
   exact fB_
 case rest =>
  obtain ⟨rfl,hbc⟩ := hcut
  have A2 := hQ_ (A1.out.below HS.out hbc)
  have X2 := hQ_ (X1.out.below hbc)
  skip
  have f2_X0 := cC7 X2.out
  clear hbc f1_X0
  go_wp2_with fail
  refine (HFJ.out _ _ _ _ A2.out.rep (Aft.sm0 C1.out.1) (lim_aft C1.out.1 HL.out (by omega) (by omega)) (by have := C1.out.1.rd; omega) (HX.out.at_ A2.out).1).mono ?_
  rintro e w3 ⟨s3,S3,D3,rfl,hr,st,hsm,hrd,hrg⟩
  have C3 := hQ_ (aftF C1.out hsm hrd hrg)
  have Y3 := hQ_ (Blk.new_ w3 #[.int .u32 yd,.string yn,.int .u32 yi,.int .u8 yk,.int .u32 yl,.int .u32 yz,.int .u32 yp] 65)
  have hbn := bX_ Y3.out
  have AQ := A2.out.step HS.out hr st
  have A3 := hQ_ (AQ.own HS.out hbn (Nat.le_refl w3.heap.size) (by simp))
  have X3 := hQ_ ((A2.out.blk HS.out X2.out (.inr rfl) st).below hbn)
  have f3_X0 := cC7 X3.out
  have f3_Y0 := cC7 Y3.out
  clear hr st hsm hrd hrg hbn AQ f2_X0
  have FE4 : fst_ [0,0] = 0 := rfl
  have HF4 := hQ_ (first_2b (0) (0) (w3.alloc (.cells #[.int .u32 yd,.string yn,.int .u32 yi,.int .u8 yk,.int .u32 yl,.int .u32 yz,.int .u32 yp] 65)) (w3.heap.size + 1) (by simp))
  rw [FE4] at HF4
  clear FE4
  go_upto_region 6 with (fail)
  go_cut [11] (fun p wx => p = .int .i64 (0) ∧ BL_ (w3.alloc (.cells #[.int .u32 yd,.string yn,.int .u32 yi,.int .u8 yk,.int .u32 yl,.int .u32 yz,.int .u32 yp] 65)) wx)
  case first =>
   go_wp2_with (first | (go_at_call 72; (with_reducible refine (HWT.out _ _).mono ?_); rintro e w9 ⟨rfl,rfl⟩) | (go_at_call 72; (with_reducible refine (HWF.out _ _).mono ?_); rintro e w9 ⟨rfl,rfl⟩) | (go_at_call 71; (with_reducible refine HF4.out.1.mono ?_); rintro e w9 ⟨rfl,rfl⟩))
   all_goals
    go_meet
    exact fB_
  case rest =>
   obtain ⟨rfl,hbc⟩ := hcut
   have A4 := hQ_ (A3.out.below HS.out hbc)
   have X4 := hQ_ (X3.out.below hbc)
   have Y4 := hQ_ (Y3.out.below hbc)
   skip
   have f4_X0 := cC7 X4.out
   have f4_Y0 := cC7 Y4.out
   clear hbc f3_X0 f3_Y0
   go_wp2_with fail
   go_ret
   exact Ans.ok A4.out ⟨C3.out.1.more (by omega) (by omega),C3.out.2⟩
theorem ren_into (hW0 : Wk Rep) (old path : ByteArray) {xd xi xk xl xz xp er : Int} {xn : ByteArray} {yd yi yk yl yz yp er2 : Int} {yn : ByteArray} (hr : Rep w v s S D) (hl : Lim s) (h2 : s.rd.length ≤ 18000) (h3 : s.rg.length ≤ 900) (hx : Mxs w S) (hp : old.size ≤ 100000) (hp2 : path.size ≤ 100000) (hR : findM s.shown old = (⟨xd,xn,xi,⟨xk,xl,xz,xp⟩⟩,er)) (hR2 : findM s.shown path = (⟨yd,yn,yi,⟨yk,yl,yz,yp⟩⟩,er2)) (he : er = 0) (h0 : xi ≠ 0) (h1 : xi ≠ 1) (he2 : er2 = 0) (h3 : yi ≠ 1) (h4 : xi ≠ yi) (h5 : xk = 2) (hu : under (spl old).1 (spl path).1 = true) :
 Calls Tryz.prog 29 #[v,.string old,.string path] w (Ans Rep v s 15 [] 84 1 S D w) := by
 have A0 := hQ_ (At.start hr)
 have HX := hQ_ hx
 have HS := hQ_ hW0.stays
 have HL := hQ_ hl
 have C0 := hQ_ (aft0 s)
 have HWT := hQ_ when_t
 have HWF := hQ_ when_f
 have HFI := hQ_ (fun w (S D : Nat → Prop) (t : Vs) (hr : Rep w v t S D) (hsm : Sm t s) hl h2 hx => find_c hW0 old hR hr hsm hl h2 hp hx)
 unfold FndC at HFI
 have hsbx := find_bd s.shown old
 have hibx := find_ib s.shown old
 rw [hR] at hsbx hibx
 obtain ⟨x0,x1,x2,x3,x4⟩ := hsbx
 dsimp only at x0 x1 x2 x3 x4 HFI hibx
 have HFJ := hQ_ (fun w (S D : Nat → Prop) (t : Vs) (hr : Rep w v t S D) (hsm : Sm t s) hl h2 hx => find_c hW0 path hR2 hr hsm hl h2 hp2 hx)
 unfold FndC at HFJ
 have hsby := find_bd s.shown path
 have hiby := find_ib s.shown path
 rw [hR2] at hsby hiby
 obtain ⟨y0,y1,y2,y3,y4⟩ := hsby
 dsimp only at y0 y1 y2 y3 y4 HFJ hiby
 subst he
 have d1 : (xi == 1) = false := by simpa using h1
 have d2 : (xi == 0) = false := by simpa using h0
 subst he2
 have d4 : (yi == 1) = false := by simpa using h3
 have d5 : (xi == yi) = false := by simpa using h4
 have HWI := hQ_ (fun w (hx : Mx w) => within_calls old path w hp hp2 hx)
 have HUN := hQ_ hu
 have d6 : (xk == 2) = true := by simpa using h5
 clear hr hl hp hp2 hR hW0 hR2 hx h0 h1 h3 h4 h5 hu
 go_enter Tryz.func29,Tryz.ntmps29
 go_wp2_with fail
 refine (HFI.out _ _ _ _ A0.out.rep (Aft.sm0 C0.out.1) (lim_aft C0.out.1 HL.out (by omega) (by omega)) (by have := C0.out.1.rd; omega) (HX.out.at_ A0.out).1).mono ?_
 rintro e w1 ⟨s1,S1,D1,rfl,hr,st,hsm,hrd,hrg⟩
 have C1 := hQ_ (aftF C0.out hsm hrd hrg)
 have X1 := hQ_ (Blk.new_ w1 #[.int .u32 xd,.string xn,.int .u32 xi,.int .u8 xk,.int .u32 xl,.int .u32 xz,.int .u32 xp] 65)
 have hbn := bX_ X1.out
 have AQ := A0.out.step HS.out hr st
 have A1 := hQ_ (AQ.own HS.out hbn (Nat.le_refl w1.heap.size) (by simp))
 have f1_X0 := cC7 X1.out
 clear hr st hsm hrd hrg hbn AQ
 have FE2 : fst_ [0,0,0] = 0 := rfl
 have HF2 := hQ_ (first_3b (0) (0) (0) (w1.alloc (.cells #[.int .u32 xd,.string xn,.int .u32 xi,.int .u8 xk,.int .u32 xl,.int .u32 xz,.int .u32 xp] 65)) (w1.heap.size + 1) (by simp))
 rw [FE2] at HF2
 clear FE2
 go_upto_region 2 with (fail)
 go_cut [9] (fun p wx => p = .int .i64 (0) ∧ BL_ (w1.alloc (.cells #[.int .u32 xd,.string xn,.int .u32 xi,.int .u8 xk,.int .u32 xl,.int .u32 xz,.int .u32 xp] 65)) wx)
 case first =>
  go_region_law (first | (go_simp; go_at_call 72; (with_reducible refine (HWT.out _ _).mono ?_); rintro e w9 ⟨rfl,rfl⟩) | (go_simp; go_at_call 72; (with_reducible refine (HWF.out _ _).mono ?_); rintro e w9 ⟨rfl,rfl⟩) | (go_simp; go_at_call 71; (first | (with_reducible refine HF2.out.1.mono ?_) | (with_reducible refine HF2.out.2.mono ?_)); rintro e w9 ⟨rfl,rfl⟩))
  all_goals
   go_wp2_with fail
   go_meet
   exact fB_
 case rest =>
  obtain ⟨rfl,hbc⟩ := hcut
  have A2 := hQ_ (A1.out.below HS.out hbc)
  have X2 := hQ_ (X1.out.below hbc)
  skip
  have f2_X0 := cC7 X2.out
  clear hbc f1_X0
  go_wp2_with fail
  refine (HFJ.out _ _ _ _ A2.out.rep (Aft.sm0 C1.out.1) (lim_aft C1.out.1 HL.out (by omega) (by omega)) (by have := C1.out.1.rd; omega) (HX.out.at_ A2.out).1).mono ?_
  rintro e w3 ⟨s3,S3,D3,rfl,hr,st,hsm,hrd,hrg⟩
  have C3 := hQ_ (aftF C1.out hsm hrd hrg)
  have Y3 := hQ_ (Blk.new_ w3 #[.int .u32 yd,.string yn,.int .u32 yi,.int .u8 yk,.int .u32 yl,.int .u32 yz,.int .u32 yp] 65)
  have hbn := bX_ Y3.out
  have AQ := A2.out.step HS.out hr st
  have A3 := hQ_ (AQ.own HS.out hbn (Nat.le_refl w3.heap.size) (by simp))
  have X3 := hQ_ ((A2.out.blk HS.out X2.out (.inr rfl) st).below hbn)
  have f3_X0 := cC7 X3.out
  have f3_Y0 := cC7 Y3.out
  clear hr st hsm hrd hrg hbn AQ f2_X0
  have FE4 : fst_ [0,0] = 0 := rfl
  have HF4 := hQ_ (first_2b (0) (0) (w3.alloc (.cells #[.int .u32 yd,.string yn,.int .u32 yi,.int .u8 yk,.int .u32 yl,.int .u32 yz,.int .u32 yp] 65)) (w3.heap.size + 1) (by simp))
  rw [FE4] at HF4
  clear FE4
  go_upto_region 6 with (fail)
  go_cut [11] (fun p wx => p = .int .i64 (0) ∧ BL_ (w3.alloc (.cells #[.int .u32 yd,.string yn,.int .u32 yi,.int .u8 yk,.int .u32 yl,.int .u32 yz,.int .u32 yp] 65)) wx)
  case first =>
   go_wp2_with (first | (go_at_call 72; (with_reducible refine (HWT.out _ _).mono ?_); rintro e w9 ⟨rfl,rfl⟩) | (go_at_call 72; (with_reducible refine (HWF.out _ _).mono ?_); rintro e w9 ⟨rfl,rfl⟩) | (go_at_call 71; (with_reducible refine HF4.out.1.mono ?_); rintro e w9 ⟨rfl,rfl⟩))
   all_goals
    go_meet
    exact fB_
  case rest =>
   obtain ⟨rfl,hbc⟩ := hcut
   have A4 := hQ_ (A3.out.below HS.out hbc)
   have X4 := hQ_ (X3.out.below hbc)
   have Y4 := hQ_ (Y3.out.below hbc)
   skip
   have f4_X0 := cC7 X4.out
   have f4_Y0 := cC7 Y4.out
   clear hbc f3_X0 f3_Y0
   go_wp2_with fail
   refine (HWI.out _ (HX.out.at_ A4.out).1).mono ?_
   rw [HUN.out]
   rintro e w5 ⟨rfl,hbn⟩
   have A5 := hQ_ (A4.out.below HS.out hbn)
   have X5 := hQ_ (X4.out.below hbn)
   have Y5 := hQ_ (Y4.out.below hbn)
   have f5_X0 := cC7 X5.out
   have f5_Y0 := cC7 Y5.out
   clear hbn f4_X0 f4_Y0
   go_wp2_with fail
   go_ret
   exact Ans.ok A5.out ⟨C3.out.1.more (by omega) (by omega),C3.out.2⟩
theorem ren_rep_t (hW0 : Wk Rep) (old path : ByteArray) {xd xi xk xl xz xp er : Int} {xn : ByteArray} {yd yi yk yl yz yp er2 : Int} {yn : ByteArray} (hr : Rep w v s S D) (hl : Lim s) (h2 : s.rd.length ≤ 18000) (h3 : s.rg.length ≤ 900) (hx : Mxs w S) (hp : old.size ≤ 100000) (hp2 : path.size ≤ 100000) (hR : findM s.shown old = (⟨xd,xn,xi,⟨xk,xl,xz,xp⟩⟩,er)) (hR2 : findM s.shown path = (⟨yd,yn,yi,⟨yk,yl,yz,yp⟩⟩,er2)) (he : er = 0) (h0 : xi ≠ 0) (h1 : xi ≠ 1) (he2 : er2 = 0) (h3 : yi ≠ 1) (h4 : xi ≠ yi) (hk : ∀ p ∈ s.shown,(sp p.key).letter ≠ 0) (hnb : ∀ p ∈ s.shown,∀ i,blkB i p = false) (h5 : xk = 2) (hu : under (spl old).1 (spl path).1 = false) {rx : Int} {ps : List Wrt} (hrx : clrV s.shown ⟨yd,yn,yi,⟨yk,yl,yz,yp⟩⟩ true = (rx,ps)) (hx0 : rx ≠ 0) :
 Calls Tryz.prog 29 #[v,.string old,.string path] w (Ans Rep v s rx [] 84 1 S D w) := by
 have A0 := hQ_ (At.start hr)
 have HX := hQ_ hx
 have HS := hQ_ hW0.stays
 have HL := hQ_ hl
 have C0 := hQ_ (aft0 s)
 have HWT := hQ_ when_t
 have HWF := hQ_ when_f
 have HFI := hQ_ (fun w (S D : Nat → Prop) (t : Vs) (hr : Rep w v t S D) (hsm : Sm t s) hl h2 hx => find_c hW0 old hR hr hsm hl h2 hp hx)
 unfold FndC at HFI
 have hsbx := find_bd s.shown old
 have hibx := find_ib s.shown old
 rw [hR] at hsbx hibx
 obtain ⟨x0,x1,x2,x3,x4⟩ := hsbx
 dsimp only at x0 x1 x2 x3 x4 HFI hibx
 have HFJ := hQ_ (fun w (S D : Nat → Prop) (t : Vs) (hr : Rep w v t S D) (hsm : Sm t s) hl h2 hx => find_c hW0 path hR2 hr hsm hl h2 hp2 hx)
 unfold FndC at HFJ
 have hsby := find_bd s.shown path
 have hiby := find_ib s.shown path
 rw [hR2] at hsby hiby
 obtain ⟨y0,y1,y2,y3,y4⟩ := hsby
 dsimp only at y0 y1 y2 y3 y4 HFJ hiby
 have hps : ps = [] := by
  have h := clr_err (L := s.shown) (x := ⟨yd,yn,yi,⟨yk,yl,yz,yp⟩⟩) (d := true) (by rw [hrx]; exact hx0)
  rw [hrx] at h
  exact h
 subst hps
 subst he
 have d1 : (xi == 1) = false := by simpa using h1
 have d2 : (xi == 0) = false := by simpa using h0
 subst he2
 have d4 : (yi == 1) = false := by simpa using h3
 have d5 : (xi == yi) = false := by simpa using h4
 have HWI := hQ_ (fun w (hx : Mx w) => within_calls old path w hp hp2 hx)
 have HUN := hQ_ hu
 have d6 : (xk == 2) = true := by simpa using h5
 clear hu
 have HRC := hQ_ (fun w (S D : Nat → Prop) (t : Vs) (hr : Rep w v t S D) (hsm : Sm t s) hl h2 h3 => show Calls _ _ _ _ (Ans Rep v t (clrV s.shown ⟨yd,yn,yi,⟨yk,yl,yz,yp⟩⟩ true).1 (clrV s.shown ⟨yd,yn,yi,⟨yk,yl,yz,yp⟩⟩ true).2 1 1 S D w) by have h := replace_calls hW0 yd yi yk yl yz yp xk yn hr hl h2 h3 y0 y1 y2 y3 y4 hiby (by rw [hsm.shown]; exact hk) (by rw [hsm.shown]; exact fun p hp => hnb p hp yi); rw [hsm.shown,decide_eq_true h5] at h; exact h)
 rw [hrx] at HRC
 dsimp only at HRC
 have d7 : (rx != 0) = true := by simpa using hx0
 clear hr hl hp hp2 hR hW0 hR2 hx h0 h1 h3 h4 h5 hk hnb hrx hx0
 go_enter Tryz.func29,Tryz.ntmps29
 go_wp2_with fail
 refine (HFI.out _ _ _ _ A0.out.rep (Aft.sm0 C0.out.1) (lim_aft C0.out.1 HL.out (by omega) (by omega)) (by have := C0.out.1.rd; omega) (HX.out.at_ A0.out).1).mono ?_
 rintro e w1 ⟨s1,S1,D1,rfl,hr,st,hsm,hrd,hrg⟩
 have C1 := hQ_ (aftF C0.out hsm hrd hrg)
 have X1 := hQ_ (Blk.new_ w1 #[.int .u32 xd,.string xn,.int .u32 xi,.int .u8 xk,.int .u32 xl,.int .u32 xz,.int .u32 xp] 65)
 have hbn := bX_ X1.out
 have AQ := A0.out.step HS.out hr st
 have A1 := hQ_ (AQ.own HS.out hbn (Nat.le_refl w1.heap.size) (by simp))
 have f1_X0 := cC7 X1.out
 clear hr st hsm hrd hrg hbn AQ
 have FE2 : fst_ [0,0,0] = 0 := rfl
 have HF2 := hQ_ (first_3b (0) (0) (0) (w1.alloc (.cells #[.int .u32 xd,.string xn,.int .u32 xi,.int .u8 xk,.int .u32 xl,.int .u32 xz,.int .u32 xp] 65)) (w1.heap.size + 1) (by simp))
 rw [FE2] at HF2
 clear FE2
 go_upto_region 2 with (fail)
 go_cut [9] (fun p wx => p = .int .i64 (0) ∧ BL_ (w1.alloc (.cells #[.int .u32 xd,.string xn,.int .u32 xi,.int .u8 xk,.int .u32 xl,.int .u32 xz,.int .u32 xp] 65)) wx)
 case first =>
  go_region_law (first | (go_simp; go_at_call 72; (with_reducible refine (HWT.out _ _).mono ?_); rintro e w9 ⟨rfl,rfl⟩) | (go_simp; go_at_call 72; (with_reducible refine (HWF.out _ _).mono ?_); rintro e w9 ⟨rfl,rfl⟩) | (go_simp; go_at_call 71; (first | (with_reducible refine HF2.out.1.mono ?_) | (with_reducible refine HF2.out.2.mono ?_)); rintro e w9 ⟨rfl,rfl⟩))
  all_goals
   go_wp2_with fail
   go_meet
   exact fB_
 case rest =>
  obtain ⟨rfl,hbc⟩ := hcut
  have A2 := hQ_ (A1.out.below HS.out hbc)
  have X2 := hQ_ (X1.out.below hbc)
  skip
  have f2_X0 := cC7 X2.out
  clear hbc f1_X0
  go_wp2_with fail
  refine (HFJ.out _ _ _ _ A2.out.rep (Aft.sm0 C1.out.1) (lim_aft C1.out.1 HL.out (by omega) (by omega)) (by have := C1.out.1.rd; omega) (HX.out.at_ A2.out).1).mono ?_
  rintro e w3 ⟨s3,S3,D3,rfl,hr,st,hsm,hrd,hrg⟩
  have C3 := hQ_ (aftF C1.out hsm hrd hrg)
  have Y3 := hQ_ (Blk.new_ w3 #[.int .u32 yd,.string yn,.int .u32 yi,.int .u8 yk,.int .u32 yl,.int .u32 yz,.int .u32 yp] 65)
  have hbn := bX_ Y3.out
  have AQ := A2.out.step HS.out hr st
  have A3 := hQ_ (AQ.own HS.out hbn (Nat.le_refl w3.heap.size) (by simp))
  have X3 := hQ_ ((A2.out.blk HS.out X2.out (.inr rfl) st).below hbn)
  have f3_X0 := cC7 X3.out
  have f3_Y0 := cC7 Y3.out
  clear hr st hsm hrd hrg hbn AQ f2_X0
  have FE4 : fst_ [0,0] = 0 := rfl
  have HF4 := hQ_ (first_2b (0) (0) (w3.alloc (.cells #[.int .u32 yd,.string yn,.int .u32 yi,.int .u8 yk,.int .u32 yl,.int .u32 yz,.int .u32 yp] 65)) (w3.heap.size + 1) (by simp))
  rw [FE4] at HF4
  clear FE4
  go_upto_region 6 with (fail)
  go_cut [11] (fun p wx => p = .int .i64 (0) ∧ BL_ (w3.alloc (.cells #[.int .u32 yd,.string yn,.int .u32 yi,.int .u8 yk,.int .u32 yl,.int .u32 yz,.int .u32 yp] 65)) wx)
  case first =>
   go_wp2_with (first | (go_at_call 72; (with_reducible refine (HWT.out _ _).mono ?_); rintro e w9 ⟨rfl,rfl⟩) | (go_at_call 72; (with_reducible refine (HWF.out _ _).mono ?_); rintro e w9 ⟨rfl,rfl⟩) | (go_at_call 71; (with_reducible refine HF4.out.1.mono ?_); rintro e w9 ⟨rfl,rfl⟩))
   all_goals
    go_meet
    exact fB_
  case rest =>
   obtain ⟨rfl,hbc⟩ := hcut
   have A4 := hQ_ (A3.out.below HS.out hbc)
   have X4 := hQ_ (X3.out.below hbc)
   have Y4 := hQ_ (Y3.out.below hbc)
   skip
   have f4_X0 := cC7 X4.out
   have f4_Y0 := cC7 Y4.out
   clear hbc f3_X0 f3_Y0
   go_wp2_with fail
   refine (HWI.out _ (HX.out.at_ A4.out).1).mono ?_
   rw [HUN.out]
   rintro e w5 ⟨rfl,hbn⟩
   have A5 := hQ_ (A4.out.below HS.out hbn)
   have X5 := hQ_ (X4.out.below hbn)
   have Y5 := hQ_ (Y4.out.below hbn)
   have f5_X0 := cC7 X5.out
   have f5_Y0 := cC7 Y5.out
   clear hbn f4_X0 f4_Y0
   go_wp2_with fail
   refine (HRC.out _ _ _ _ A5.out.rep (Aft.sm0 C3.out.1) (lim_aft C3.out.1 HL.out (by omega) (by omega)) (by have := C3.out.1.rd; omega) (by have := C3.out.1.rg; omega)).mono ?_
   intro e w6 hh
   rcases Ans.split hh with ⟨s6,S6,D6,rfl,ho,hr,st,ha⟩ | ⟨s6,S6,D6,rfl,ho,hr,st,ha⟩
   ·have A6 := hQ_ (A5.out.step HS.out hr st)
    have C6 := hQ_ (Aft.thru C3.out (And.intro ha ho))
    clear hr st ha ho
    go_wp2_with fail
    go_ret
    exact Ans.ok A6.out ⟨C6.out.1.more (by omega) (by omega),C6.out.2⟩
   ·have A6 := hQ_ (A5.out.step HS.out hr st)
    have C6 := hQ_ (Aft.thru C3.out (And.intro ha ho))
    clear hr st ha ho
    go_wp2_with fail
    go_ret
    exact Ans.full A6.out ⟨C6.out.1.more (by omega) (by omega),C6.out.2⟩
theorem ren_do_t (hW0 : Wk Rep) (old path : ByteArray) {xd xi xk xl xz xp er : Int} {xn : ByteArray} {yd yi yk yl yz yp er2 : Int} {yn : ByteArray} (hr : Rep w v s S D) (hl : Lim s) (h2 : s.rd.length ≤ 18000) (h3 : s.rg.length ≤ 900) (hx : Mxs w S) (hp : old.size ≤ 100000) (hp2 : path.size ≤ 100000) (hR : findM s.shown old = (⟨xd,xn,xi,⟨xk,xl,xz,xp⟩⟩,er)) (hR2 : findM s.shown path = (⟨yd,yn,yi,⟨yk,yl,yz,yp⟩⟩,er2)) (he : er = 0) (h0 : xi ≠ 0) (h1 : xi ≠ 1) (he2 : er2 = 0) (h3 : yi ≠ 1) (h4 : xi ≠ yi) (hk : ∀ p ∈ s.shown,(sp p.key).letter ≠ 0) (hnb : ∀ p ∈ s.shown,∀ i,blkB i p = false) (h5 : xk = 2) (hu : under (spl old).1 (spl path).1 = false) {ps : List Wrt} (hrx : clrV s.shown ⟨yd,yn,yi,⟨yk,yl,yz,yp⟩⟩ true = (0,ps)) :
 Calls Tryz.prog 29 #[v,.string old,.string path] w (Ans Rep v s 0 (ps ++ movPs ⟨xd,xn,xi,⟨xk,xl,xz,xp⟩⟩ ⟨yd,yn,yi,⟨yk,yl,yz,yp⟩⟩) 84 1 S D w) := by
 have A0 := hQ_ (At.start hr)
 have HX := hQ_ hx
 have HS := hQ_ hW0.stays
 have HL := hQ_ hl
 have HRO := hQ_ room_calls
 have C0 := hQ_ (aft0 s)
 have HWT := hQ_ when_t
 have HWF := hQ_ when_f
 have HFI := hQ_ (fun w (S D : Nat → Prop) (t : Vs) (hr : Rep w v t S D) (hsm : Sm t s) hl h2 hx => find_c hW0 old hR hr hsm hl h2 hp hx)
 unfold FndC at HFI
 have hsbx := find_bd s.shown old
 have hibx := find_ib s.shown old
 rw [hR] at hsbx hibx
 obtain ⟨x0,x1,x2,x3,x4⟩ := hsbx
 dsimp only at x0 x1 x2 x3 x4 HFI hibx
 have HFJ := hQ_ (fun w (S D : Nat → Prop) (t : Vs) (hr : Rep w v t S D) (hsm : Sm t s) hl h2 hx => find_c hW0 path hR2 hr hsm hl h2 hp2 hx)
 unfold FndC at HFJ
 have hsby := find_bd s.shown path
 have hiby := find_ib s.shown path
 rw [hR2] at hsby hiby
 obtain ⟨y0,y1,y2,y3,y4⟩ := hsby
 dsimp only at y0 y1 y2 y3 y4 HFJ hiby
 have HMV := hQ_ (fun w (S D : Nat → Prop) (t : Vs) (hr : Rep w v t S D) hl h2 h3 => move_calls hW0 xd xi xk xl xz xp xn yd yi yk yl yz yp yn (s := t) (w := w) (S := S) (D := D) (v := v) hr hl h2 h3 x0 x1 x2 x3 (by omega) y0 y1 y2 y3 (by omega))
 obtain ⟨mv,hmv⟩ : ∃ mv,movPs ⟨xd,xn,xi,⟨xk,xl,xz,xp⟩⟩ ⟨yd,yn,yi,⟨yk,yl,yz,yp⟩⟩ = mv := ⟨_,rfl⟩
 rw [hmv] at HMV ⊢
 subst he
 have d1 : (xi == 1) = false := by simpa using h1
 have d2 : (xi == 0) = false := by simpa using h0
 subst he2
 have d4 : (yi == 1) = false := by simpa using h3
 have d5 : (xi == yi) = false := by simpa using h4
 have HWI := hQ_ (fun w (hx : Mx w) => within_calls old path w hp hp2 hx)
 have HUN := hQ_ hu
 have d6 : (xk == 2) = true := by simpa using h5
 clear hu
 have HRC := hQ_ (fun w (S D : Nat → Prop) (t : Vs) (hr : Rep w v t S D) (hsm : Sm t s) hl h2 h3 => show Calls _ _ _ _ (Ans Rep v t (clrV s.shown ⟨yd,yn,yi,⟨yk,yl,yz,yp⟩⟩ true).1 (clrV s.shown ⟨yd,yn,yi,⟨yk,yl,yz,yp⟩⟩ true).2 1 1 S D w) by have h := replace_calls hW0 yd yi yk yl yz yp xk yn hr hl h2 h3 y0 y1 y2 y3 y4 hiby (by rw [hsm.shown]; exact hk) (by rw [hsm.shown]; exact fun p hp => hnb p hp yi); rw [hsm.shown,decide_eq_true h5] at h; exact h)
 rw [hrx] at HRC
 dsimp only at HRC
 clear hr hl hp hp2 hR hW0 hR2 hx h0 h1 h3 h4 h5 hk hnb hrx hmv
 go_enter Tryz.func29,Tryz.ntmps29
 go_wp2_with fail
 refine (HFI.out _ _ _ _ A0.out.rep (Aft.sm0 C0.out.1) (lim_aft C0.out.1 HL.out (by omega) (by omega)) (by have := C0.out.1.rd; omega) (HX.out.at_ A0.out).1).mono ?_
 rintro e w1 ⟨s1,S1,D1,rfl,hr,st,hsm,hrd,hrg⟩
 have C1 := hQ_ (aftF C0.out hsm hrd hrg)
 have X1 := hQ_ (Blk.new_ w1 #[.int .u32 xd,.string xn,.int .u32 xi,.int .u8 xk,.int .u32 xl,.int .u32 xz,.int .u32 xp] 65)
 have hbn := bX_ X1.out
 have AQ := A0.out.step HS.out hr st
 have A1 := hQ_ (AQ.own HS.out hbn (Nat.le_refl w1.heap.size) (by simp))
 have f1_X0 := cC7 X1.out
 clear hr st hsm hrd hrg hbn AQ
 have FE2 : fst_ [0,0,0] = 0 := rfl
 have HF2 := hQ_ (first_3b (0) (0) (0) (w1.alloc (.cells #[.int .u32 xd,.string xn,.int .u32 xi,.int .u8 xk,.int .u32 xl,.int .u32 xz,.int .u32 xp] 65)) (w1.heap.size + 1) (by simp))
 rw [FE2] at HF2
 clear FE2
 go_upto_region 2 with (fail)
 go_cut [9] (fun p wx => p = .int .i64 (0) ∧ BL_ (w1.alloc (.cells #[.int .u32 xd,.string xn,.int .u32 xi,.int .u8 xk,.int .u32 xl,.int .u32 xz,.int .u32 xp] 65)) wx)
 case first =>
  go_region_law (first | (go_simp; go_at_call 72; (with_reducible refine (HWT.out _ _).mono ?_); rintro e w9 ⟨rfl,rfl⟩) | (go_simp; go_at_call 72; (with_reducible refine (HWF.out _ _).mono ?_); rintro e w9 ⟨rfl,rfl⟩) | (go_simp; go_at_call 71; (first | (with_reducible refine HF2.out.1.mono ?_) | (with_reducible refine HF2.out.2.mono ?_)); rintro e w9 ⟨rfl,rfl⟩))
  all_goals
   go_wp2_with fail
   go_meet
   exact fB_
 case rest =>
  obtain ⟨rfl,hbc⟩ := hcut
  have A2 := hQ_ (A1.out.below HS.out hbc)
  have X2 := hQ_ (X1.out.below hbc)
  skip
  have f2_X0 := cC7 X2.out
  clear hbc f1_X0
  go_wp2_with fail
  refine (HFJ.out _ _ _ _ A2.out.rep (Aft.sm0 C1.out.1) (lim_aft C1.out.1 HL.out (by omega) (by omega)) (by have := C1.out.1.rd; omega) (HX.out.at_ A2.out).1).mono ?_
  rintro e w3 ⟨s3,S3,D3,rfl,hr,st,hsm,hrd,hrg⟩
  have C3 := hQ_ (aftF C1.out hsm hrd hrg)
  have Y3 := hQ_ (Blk.new_ w3 #[.int .u32 yd,.string yn,.int .u32 yi,.int .u8 yk,.int .u32 yl,.int .u32 yz,.int .u32 yp] 65)
  have hbn := bX_ Y3.out
  have AQ := A2.out.step HS.out hr st
  have A3 := hQ_ (AQ.own HS.out hbn (Nat.le_refl w3.heap.size) (by simp))
  have X3 := hQ_ ((A2.out.blk HS.out X2.out (.inr rfl) st).below hbn)
  have f3_X0 := cC7 X3.out
  have f3_Y0 := cC7 Y3.out
  clear hr st hsm hrd hrg hbn AQ f2_X0
  have FE4 : fst_ [0,0] = 0 := rfl
  have HF4 := hQ_ (first_2b (0) (0) (w3.alloc (.cells #[.int .u32 yd,.string yn,.int .u32 yi,.int .u8 yk,.int .u32 yl,.int .u32 yz,.int .u32 yp] 65)) (w3.heap.size + 1) (by simp))
  rw [FE4] at HF4
  clear FE4
  go_upto_region 6 with (fail)
  go_cut [11] (fun p wx => p = .int .i64 (0) ∧ BL_ (w3.alloc (.cells #[.int .u32 yd,.string yn,.int .u32 yi,.int .u8 yk,.int .u32 yl,.int .u32 yz,.int .u32 yp] 65)) wx)
  case first =>
   go_wp2_with (first | (go_at_call 72; (with_reducible refine (HWT.out _ _).mono ?_); rintro e w9 ⟨rfl,rfl⟩) | (go_at_call 72; (with_reducible refine (HWF.out _ _).mono ?_); rintro e w9 ⟨rfl,rfl⟩) | (go_at_call 71; (with_reducible refine HF4.out.1.mono ?_); rintro e w9 ⟨rfl,rfl⟩))
   all_goals
    go_meet
    exact fB_
  case rest =>
   obtain ⟨rfl,hbc⟩ := hcut
   have A4 := hQ_ (A3.out.below HS.out hbc)
   have X4 := hQ_ (X3.out.below hbc)
   have Y4 := hQ_ (Y3.out.below hbc)
   skip
   have f4_X0 := cC7 X4.out
   have f4_Y0 := cC7 Y4.out
   clear hbc f3_X0 f3_Y0
   go_wp2_with fail
   refine (HWI.out _ (HX.out.at_ A4.out).1).mono ?_
   rw [HUN.out]
   rintro e w5 ⟨rfl,hbn⟩
   have A5 := hQ_ (A4.out.below HS.out hbn)
   have X5 := hQ_ (X4.out.below hbn)
   have Y5 := hQ_ (Y4.out.below hbn)
   have f5_X0 := cC7 X5.out
   have f5_Y0 := cC7 Y5.out
   clear hbn f4_X0 f4_Y0
   go_wp2_with fail
   refine (HRC.out _ _ _ _ A5.out.rep (Aft.sm0 C3.out.1) (lim_aft C3.out.1 HL.out (by omega) (by omega)) (by have := C3.out.1.rd; omega) (by have := C3.out.1.rg; omega)).mono ?_
   intro e w6 hh
   rcases Ans.split hh with ⟨s6,S6,D6,rfl,ho,hr,st,ha⟩ | ⟨s6,S6,D6,rfl,ho,hr,st,ha⟩
   ·have C6 := hQ_ (Aft.thru C3.out (And.intro ha ho))
    clear ha ho
    have A6 := hQ_ (A5.out.step HS.out hr st)
    have X6 := hQ_ (A5.out.blk HS.out X5.out (.inl (.inr rfl)) st)
    have Y6 := hQ_ (A5.out.blk HS.out Y5.out (.inr rfl) st)
    have f6_X0 := cC7 X6.out
    have f6_Y0 := cC7 Y6.out
    clear st hr f5_X0 f5_Y0
    go_wp2_with fail
    refine (HMV.out _ _ _ _ A6.out.rep (lim_aft C6.out.1 HL.out (by omega) (by omega)) (by have := C6.out.1.rd; omega) (by have := C6.out.1.rg; omega)).mono ?_
    intro e w7 hh
    rcases Wrote.split hh with ⟨s7,S7,D7,rfl,ho,hr,st,ha⟩ | ⟨s7,S7,D7,rfl,ho,hr,st,ha⟩
    ·have A7 := hQ_ (A6.out.step HS.out hr st)
     obtain ⟨z1,z2⟩ := C6.out.1.app C6.out.2 ha
     have C7 := hQ_ (And.intro z1 (z2.trans ho))
     clear hr st ha ho z1 z2
     go_wp2_with (go_at_call 75; refine (HRO.out _ _).mono ?_; rintro e w9 ⟨rfl,rfl⟩)
     go_ret
     exact Ans.ok A7.out ⟨C7.out.1.more (by omega) (by omega),C7.out.2⟩
    ·have A7 := hQ_ (A6.out.step HS.out hr st)
     obtain ⟨z1,z2⟩ := C6.out.1.app C6.out.2 ha
     have C7 := hQ_ (And.intro z1 (z2.trans ho))
     clear hr st ha ho z1 z2
     go_wp2_with (go_at_call 75; refine (HRO.out _ _).mono ?_; rintro e w9 ⟨rfl,rfl⟩)
     go_ret
     exact Ans.full A7.out ⟨C7.out.1.more (by omega) (by omega),C7.out.2⟩
   ·have A6 := hQ_ (A5.out.step HS.out hr st)
    have C6 := hQ_ (Aft.thru C3.out (And.intro ha ho))
    clear hr st ha ho
    go_wp2_with fail
    go_ret
    exact Ans.full A6.out ⟨(Aft.stop (qs := mv) C6.out.1 C6.out.2).1.more (by omega) (by omega),(Aft.stop (qs := mv) C6.out.1 C6.out.2).2⟩
theorem ren_rep_f (hW0 : Wk Rep) (old path : ByteArray) {xd xi xk xl xz xp er : Int} {xn : ByteArray} {yd yi yk yl yz yp er2 : Int} {yn : ByteArray} (hr : Rep w v s S D) (hl : Lim s) (h2 : s.rd.length ≤ 18000) (h3 : s.rg.length ≤ 900) (hx : Mxs w S) (hp : old.size ≤ 100000) (hp2 : path.size ≤ 100000) (hR : findM s.shown old = (⟨xd,xn,xi,⟨xk,xl,xz,xp⟩⟩,er)) (hR2 : findM s.shown path = (⟨yd,yn,yi,⟨yk,yl,yz,yp⟩⟩,er2)) (he : er = 0) (h0 : xi ≠ 0) (h1 : xi ≠ 1) (he2 : er2 = 0) (h3 : yi ≠ 1) (h4 : xi ≠ yi) (hk : ∀ p ∈ s.shown,(sp p.key).letter ≠ 0) (hnb : ∀ p ∈ s.shown,∀ i,blkB i p = false) (h5 : xk ≠ 2) {rx : Int} {ps : List Wrt} (hrx : clrV s.shown ⟨yd,yn,yi,⟨yk,yl,yz,yp⟩⟩ false = (rx,ps)) (hx0 : rx ≠ 0) :
 Calls Tryz.prog 29 #[v,.string old,.string path] w (Ans Rep v s rx [] 84 1 S D w) := by
 have A0 := hQ_ (At.start hr)
 have HX := hQ_ hx
 have HS := hQ_ hW0.stays
 have HL := hQ_ hl
 have C0 := hQ_ (aft0 s)
 have HWT := hQ_ when_t
 have HWF := hQ_ when_f
 have HFI := hQ_ (fun w (S D : Nat → Prop) (t : Vs) (hr : Rep w v t S D) (hsm : Sm t s) hl h2 hx => find_c hW0 old hR hr hsm hl h2 hp hx)
 unfold FndC at HFI
 have hsbx := find_bd s.shown old
 have hibx := find_ib s.shown old
 rw [hR] at hsbx hibx
 obtain ⟨x0,x1,x2,x3,x4⟩ := hsbx
 dsimp only at x0 x1 x2 x3 x4 HFI hibx
 have HFJ := hQ_ (fun w (S D : Nat → Prop) (t : Vs) (hr : Rep w v t S D) (hsm : Sm t s) hl h2 hx => find_c hW0 path hR2 hr hsm hl h2 hp2 hx)
 unfold FndC at HFJ
 have hsby := find_bd s.shown path
 have hiby := find_ib s.shown path
 rw [hR2] at hsby hiby
 obtain ⟨y0,y1,y2,y3,y4⟩ := hsby
 dsimp only at y0 y1 y2 y3 y4 HFJ hiby
 have hps : ps = [] := by
  have h := clr_err (L := s.shown) (x := ⟨yd,yn,yi,⟨yk,yl,yz,yp⟩⟩) (d := false) (by rw [hrx]; exact hx0)
  rw [hrx] at h
  exact h
 subst hps
 subst he
 have d1 : (xi == 1) = false := by simpa using h1
 have d2 : (xi == 0) = false := by simpa using h0
 subst he2
 have d4 : (yi == 1) = false := by simpa using h3
 have d5 : (xi == yi) = false := by simpa using h4
 have d6 : (xk == 2) = false := by simpa using h5
 have HRC := hQ_ (fun w (S D : Nat → Prop) (t : Vs) (hr : Rep w v t S D) (hsm : Sm t s) hl h2 h3 => show Calls _ _ _ _ (Ans Rep v t (clrV s.shown ⟨yd,yn,yi,⟨yk,yl,yz,yp⟩⟩ false).1 (clrV s.shown ⟨yd,yn,yi,⟨yk,yl,yz,yp⟩⟩ false).2 1 1 S D w) by have h := replace_calls hW0 yd yi yk yl yz yp xk yn hr hl h2 h3 y0 y1 y2 y3 y4 hiby (by rw [hsm.shown]; exact hk) (by rw [hsm.shown]; exact fun p hp => hnb p hp yi); rw [hsm.shown,decide_eq_false h5] at h; exact h)
 rw [hrx] at HRC
 dsimp only at HRC
 have d7 : (rx != 0) = true := by simpa using hx0
 clear hr hl hp hp2 hR hW0 hR2 hx h0 h1 h3 h4 h5 hk hnb hrx hx0
 go_enter Tryz.func29,Tryz.ntmps29
 go_wp2_with fail
 refine (HFI.out _ _ _ _ A0.out.rep (Aft.sm0 C0.out.1) (lim_aft C0.out.1 HL.out (by omega) (by omega)) (by have := C0.out.1.rd; omega) (HX.out.at_ A0.out).1).mono ?_
 rintro e w1 ⟨s1,S1,D1,rfl,hr,st,hsm,hrd,hrg⟩
 have C1 := hQ_ (aftF C0.out hsm hrd hrg)
 have X1 := hQ_ (Blk.new_ w1 #[.int .u32 xd,.string xn,.int .u32 xi,.int .u8 xk,.int .u32 xl,.int .u32 xz,.int .u32 xp] 65)
 have hbn := bX_ X1.out
 have AQ := A0.out.step HS.out hr st
 have A1 := hQ_ (AQ.own HS.out hbn (Nat.le_refl w1.heap.size) (by simp))
 have f1_X0 := cC7 X1.out
 clear hr st hsm hrd hrg hbn AQ
 have FE2 : fst_ [0,0,0] = 0 := rfl
 have HF2 := hQ_ (first_3b (0) (0) (0) (w1.alloc (.cells #[.int .u32 xd,.string xn,.int .u32 xi,.int .u8 xk,.int .u32 xl,.int .u32 xz,.int .u32 xp] 65)) (w1.heap.size + 1) (by simp))
 rw [FE2] at HF2
 clear FE2
 go_upto_region 2 with (fail)
 go_cut [9] (fun p wx => p = .int .i64 (0) ∧ BL_ (w1.alloc (.cells #[.int .u32 xd,.string xn,.int .u32 xi,.int .u8 xk,.int .u32 xl,.int .u32 xz,.int .u32 xp] 65)) wx)
 case first =>
  go_region_law (first | (go_simp; go_at_call 72; (with_reducible refine (HWT.out _ _).mono ?_); rintro e w9 ⟨rfl,rfl⟩) | (go_simp; go_at_call 72; (with_reducible refine (HWF.out _ _).mono ?_); rintro e w9 ⟨rfl,rfl⟩) | (go_simp; go_at_call 71; (first | (with_reducible refine HF2.out.1.mono ?_) | (with_reducible refine HF2.out.2.mono ?_)); rintro e w9 ⟨rfl,rfl⟩))
  all_goals
   go_wp2_with fail
   go_meet
   exact fB_
 case rest =>
  obtain ⟨rfl,hbc⟩ := hcut
  have A2 := hQ_ (A1.out.below HS.out hbc)
  have X2 := hQ_ (X1.out.below hbc)
  skip
  have f2_X0 := cC7 X2.out
  clear hbc f1_X0
  go_wp2_with fail
  refine (HFJ.out _ _ _ _ A2.out.rep (Aft.sm0 C1.out.1) (lim_aft C1.out.1 HL.out (by omega) (by omega)) (by have := C1.out.1.rd; omega) (HX.out.at_ A2.out).1).mono ?_
  rintro e w3 ⟨s3,S3,D3,rfl,hr,st,hsm,hrd,hrg⟩
  have C3 := hQ_ (aftF C1.out hsm hrd hrg)
  have Y3 := hQ_ (Blk.new_ w3 #[.int .u32 yd,.string yn,.int .u32 yi,.int .u8 yk,.int .u32 yl,.int .u32 yz,.int .u32 yp] 65)
  have hbn := bX_ Y3.out
  have AQ := A2.out.step HS.out hr st
  have A3 := hQ_ (AQ.own HS.out hbn (Nat.le_refl w3.heap.size) (by simp))
  have X3 := hQ_ ((A2.out.blk HS.out X2.out (.inr rfl) st).below hbn)
  have f3_X0 := cC7 X3.out
  have f3_Y0 := cC7 Y3.out
  clear hr st hsm hrd hrg hbn AQ f2_X0
  have FE4 : fst_ [0,0] = 0 := rfl
  have HF4 := hQ_ (first_2b (0) (0) (w3.alloc (.cells #[.int .u32 yd,.string yn,.int .u32 yi,.int .u8 yk,.int .u32 yl,.int .u32 yz,.int .u32 yp] 65)) (w3.heap.size + 1) (by simp))
  rw [FE4] at HF4
  clear FE4
  go_upto_region 6 with (fail)
  go_cut [11] (fun p wx => p = .int .i64 (0) ∧ BL_ (w3.alloc (.cells #[.int .u32 yd,.string yn,.int .u32 yi,.int .u8 yk,.int .u32 yl,.int .u32 yz,.int .u32 yp] 65)) wx)
  case first =>
   go_wp2_with (first | (go_at_call 72; (with_reducible refine (HWT.out _ _).mono ?_); rintro e w9 ⟨rfl,rfl⟩) | (go_at_call 72; (with_reducible refine (HWF.out _ _).mono ?_); rintro e w9 ⟨rfl,rfl⟩) | (go_at_call 71; (with_reducible refine HF4.out.1.mono ?_); rintro e w9 ⟨rfl,rfl⟩))
   all_goals
    go_meet
    exact fB_
  case rest =>
   obtain ⟨rfl,hbc⟩ := hcut
   have A4 := hQ_ (A3.out.below HS.out hbc)
   have X4 := hQ_ (X3.out.below hbc)
   have Y4 := hQ_ (Y3.out.below hbc)
   skip
   have f4_X0 := cC7 X4.out
   have f4_Y0 := cC7 Y4.out
   clear hbc f3_X0 f3_Y0
   go_wp2_with fail
   refine (HRC.out _ _ _ _ A4.out.rep (Aft.sm0 C3.out.1) (lim_aft C3.out.1 HL.out (by omega) (by omega)) (by have := C3.out.1.rd; omega) (by have := C3.out.1.rg; omega)).mono ?_
   intro e w5 hh
   rcases Ans.split hh with ⟨s5,S5,D5,rfl,ho,hr,st,ha⟩ | ⟨s5,S5,D5,rfl,ho,hr,st,ha⟩
   ·have A5 := hQ_ (A4.out.step HS.out hr st)
    have C5 := hQ_ (Aft.thru C3.out (And.intro ha ho))
    clear hr st ha ho
    go_wp2_with fail
    go_ret
    exact Ans.ok A5.out ⟨C5.out.1.more (by omega) (by omega),C5.out.2⟩
   ·have A5 := hQ_ (A4.out.step HS.out hr st)
    have C5 := hQ_ (Aft.thru C3.out (And.intro ha ho))
    clear hr st ha ho
    go_wp2_with fail
    go_ret
    exact Ans.full A5.out ⟨C5.out.1.more (by omega) (by omega),C5.out.2⟩
theorem ren_do_f (hW0 : Wk Rep) (old path : ByteArray) {xd xi xk xl xz xp er : Int} {xn : ByteArray} {yd yi yk yl yz yp er2 : Int} {yn : ByteArray} (hr : Rep w v s S D) (hl : Lim s) (h2 : s.rd.length ≤ 18000) (h3 : s.rg.length ≤ 900) (hx : Mxs w S) (hp : old.size ≤ 100000) (hp2 : path.size ≤ 100000) (hR : findM s.shown old = (⟨xd,xn,xi,⟨xk,xl,xz,xp⟩⟩,er)) (hR2 : findM s.shown path = (⟨yd,yn,yi,⟨yk,yl,yz,yp⟩⟩,er2)) (he : er = 0) (h0 : xi ≠ 0) (h1 : xi ≠ 1) (he2 : er2 = 0) (h3 : yi ≠ 1) (h4 : xi ≠ yi) (hk : ∀ p ∈ s.shown,(sp p.key).letter ≠ 0) (hnb : ∀ p ∈ s.shown,∀ i,blkB i p = false) (h5 : xk ≠ 2) {ps : List Wrt} (hrx : clrV s.shown ⟨yd,yn,yi,⟨yk,yl,yz,yp⟩⟩ false = (0,ps)) :
 Calls Tryz.prog 29 #[v,.string old,.string path] w (Ans Rep v s 0 (ps ++ movPs ⟨xd,xn,xi,⟨xk,xl,xz,xp⟩⟩ ⟨yd,yn,yi,⟨yk,yl,yz,yp⟩⟩) 84 1 S D w) := by
 have A0 := hQ_ (At.start hr)
 have HX := hQ_ hx
 have HS := hQ_ hW0.stays
 have HL := hQ_ hl
 have HRO := hQ_ room_calls
 have C0 := hQ_ (aft0 s)
 have HWT := hQ_ when_t
 have HWF := hQ_ when_f
 have HFI := hQ_ (fun w (S D : Nat → Prop) (t : Vs) (hr : Rep w v t S D) (hsm : Sm t s) hl h2 hx => find_c hW0 old hR hr hsm hl h2 hp hx)
 unfold FndC at HFI
 have hsbx := find_bd s.shown old
 have hibx := find_ib s.shown old
 rw [hR] at hsbx hibx
 obtain ⟨x0,x1,x2,x3,x4⟩ := hsbx
 dsimp only at x0 x1 x2 x3 x4 HFI hibx
 have HFJ := hQ_ (fun w (S D : Nat → Prop) (t : Vs) (hr : Rep w v t S D) (hsm : Sm t s) hl h2 hx => find_c hW0 path hR2 hr hsm hl h2 hp2 hx)
 unfold FndC at HFJ
 have hsby := find_bd s.shown path
 have hiby := find_ib s.shown path
 rw [hR2] at hsby hiby
 obtain ⟨y0,y1,y2,y3,y4⟩ := hsby
 dsimp only at y0 y1 y2 y3 y4 HFJ hiby
 have HMV := hQ_ (fun w (S D : Nat → Prop) (t : Vs) (hr : Rep w v t S D) hl h2 h3 => move_calls hW0 xd xi xk xl xz xp xn yd yi yk yl yz yp yn (s := t) (w := w) (S := S) (D := D) (v := v) hr hl h2 h3 x0 x1 x2 x3 (by omega) y0 y1 y2 y3 (by omega))
 obtain ⟨mv,hmv⟩ : ∃ mv,movPs ⟨xd,xn,xi,⟨xk,xl,xz,xp⟩⟩ ⟨yd,yn,yi,⟨yk,yl,yz,yp⟩⟩ = mv := ⟨_,rfl⟩
 rw [hmv] at HMV ⊢
 subst he
 have d1 : (xi == 1) = false := by simpa using h1
 have d2 : (xi == 0) = false := by simpa using h0
 subst he2
 have d4 : (yi == 1) = false := by simpa using h3
 have d5 : (xi == yi) = false := by simpa using h4
 have d6 : (xk == 2) = false := by simpa using h5
 have HRC := hQ_ (fun w (S D : Nat → Prop) (t : Vs) (hr : Rep w v t S D) (hsm : Sm t s) hl h2 h3 => show Calls _ _ _ _ (Ans Rep v t (clrV s.shown ⟨yd,yn,yi,⟨yk,yl,yz,yp⟩⟩ false).1 (clrV s.shown ⟨yd,yn,yi,⟨yk,yl,yz,yp⟩⟩ false).2 1 1 S D w) by have h := replace_calls hW0 yd yi yk yl yz yp xk yn hr hl h2 h3 y0 y1 y2 y3 y4 hiby (by rw [hsm.shown]; exact hk) (by rw [hsm.shown]; exact fun p hp => hnb p hp yi); rw [hsm.shown,decide_eq_false h5] at h; exact h)
 rw [hrx] at HRC
 dsimp only at HRC
 clear hr hl hp hp2 hR hW0 hR2 hx h0 h1 h3 h4 h5 hk hnb hrx hmv
 go_enter Tryz.func29,Tryz.ntmps29
 go_wp2_with fail
 refine (HFI.out _ _ _ _ A0.out.rep (Aft.sm0 C0.out.1) (lim_aft C0.out.1 HL.out (by omega) (by omega)) (by have := C0.out.1.rd; omega) (HX.out.at_ A0.out).1).mono ?_
 rintro e w1 ⟨s1,S1,D1,rfl,hr,st,hsm,hrd,hrg⟩
 have C1 := hQ_ (aftF C0.out hsm hrd hrg)
 have X1 := hQ_ (Blk.new_ w1 #[.int .u32 xd,.string xn,.int .u32 xi,.int .u8 xk,.int .u32 xl,.int .u32 xz,.int .u32 xp] 65)
 have hbn := bX_ X1.out
 have AQ := A0.out.step HS.out hr st
 have A1 := hQ_ (AQ.own HS.out hbn (Nat.le_refl w1.heap.size) (by simp))
 have f1_X0 := cC7 X1.out
 clear hr st hsm hrd hrg hbn AQ
 have FE2 : fst_ [0,0,0] = 0 := rfl
 have HF2 := hQ_ (first_3b (0) (0) (0) (w1.alloc (.cells #[.int .u32 xd,.string xn,.int .u32 xi,.int .u8 xk,.int .u32 xl,.int .u32 xz,.int .u32 xp] 65)) (w1.heap.size + 1) (by simp))
 rw [FE2] at HF2
 clear FE2
 go_upto_region 2 with (fail)
 go_cut [9] (fun p wx => p = .int .i64 (0) ∧ BL_ (w1.alloc (.cells #[.int .u32 xd,.string xn,.int .u32 xi,.int .u8 xk,.int .u32 xl,.int .u32 xz,.int .u32 xp] 65)) wx)
 case first =>
  go_region_law (first | (go_simp; go_at_call 72; (with_reducible refine (HWT.out _ _).mono ?_); rintro e w9 ⟨rfl,rfl⟩) | (go_simp; go_at_call 72; (with_reducible refine (HWF.out _ _).mono ?_); rintro e w9 ⟨rfl,rfl⟩) | (go_simp; go_at_call 71; (first | (with_reducible refine HF2.out.1.mono ?_) | (with_reducible refine HF2.out.2.mono ?_)); rintro e w9 ⟨rfl,rfl⟩))
  all_goals
   go_wp2_with fail
   go_meet
   exact fB_
 case rest =>
  obtain ⟨rfl,hbc⟩ := hcut
  have A2 := hQ_ (A1.out.below HS.out hbc)
  have X2 := hQ_ (X1.out.below hbc)
  skip
  have f2_X0 := cC7 X2.out
  clear hbc f1_X0
  go_wp2_with fail
  refine (HFJ.out _ _ _ _ A2.out.rep (Aft.sm0 C1.out.1) (lim_aft C1.out.1 HL.out (by omega) (by omega)) (by have := C1.out.1.rd; omega) (HX.out.at_ A2.out).1).mono ?_
  rintro e w3 ⟨s3,S3,D3,rfl,hr,st,hsm,hrd,hrg⟩
  have C3 := hQ_ (aftF C1.out hsm hrd hrg)
  have Y3 := hQ_ (Blk.new_ w3 #[.int .u32 yd,.string yn,.int .u32 yi,.int .u8 yk,.int .u32 yl,.int .u32 yz,.int .u32 yp] 65)
  have hbn := bX_ Y3.out
  have AQ := A2.out.step HS.out hr st
  have A3 := hQ_ (AQ.own HS.out hbn (Nat.le_refl w3.heap.size) (by simp))
  have X3 := hQ_ ((A2.out.blk HS.out X2.out (.inr rfl) st).below hbn)
  have f3_X0 := cC7 X3.out
  have f3_Y0 := cC7 Y3.out
  clear hr st hsm hrd hrg hbn AQ f2_X0
  have FE4 : fst_ [0,0] = 0 := rfl
  have HF4 := hQ_ (first_2b (0) (0) (w3.alloc (.cells #[.int .u32 yd,.string yn,.int .u32 yi,.int .u8 yk,.int .u32 yl,.int .u32 yz,.int .u32 yp] 65)) (w3.heap.size + 1) (by simp))
  rw [FE4] at HF4
  clear FE4
  go_upto_region 6 with (fail)
  go_cut [11] (fun p wx => p = .int .i64 (0) ∧ BL_ (w3.alloc (.cells #[.int .u32 yd,.string yn,.int .u32 yi,.int .u8 yk,.int .u32 yl,.int .u32 yz,.int .u32 yp] 65)) wx)
  case first =>
   go_wp2_with (first | (go_at_call 72; (with_reducible refine (HWT.out _ _).mono ?_); rintro e w9 ⟨rfl,rfl⟩) | (go_at_call 72; (with_reducible refine (HWF.out _ _).mono ?_); rintro e w9 ⟨rfl,rfl⟩) | (go_at_call 71; (with_reducible refine HF4.out.1.mono ?_); rintro e w9 ⟨rfl,rfl⟩))
   all_goals
    go_meet
    exact fB_
  case rest =>
   obtain ⟨rfl,hbc⟩ := hcut
   have A4 := hQ_ (A3.out.below HS.out hbc)
   have X4 := hQ_ (X3.out.below hbc)
   have Y4 := hQ_ (Y3.out.below hbc)
   skip
   have f4_X0 := cC7 X4.out
   have f4_Y0 := cC7 Y4.out
   clear hbc f3_X0 f3_Y0
   go_wp2_with fail
   refine (HRC.out _ _ _ _ A4.out.rep (Aft.sm0 C3.out.1) (lim_aft C3.out.1 HL.out (by omega) (by omega)) (by have := C3.out.1.rd; omega) (by have := C3.out.1.rg; omega)).mono ?_
   intro e w5 hh
   rcases Ans.split hh with ⟨s5,S5,D5,rfl,ho,hr,st,ha⟩ | ⟨s5,S5,D5,rfl,ho,hr,st,ha⟩
   ·have C5 := hQ_ (Aft.thru C3.out (And.intro ha ho))
    clear ha ho
    have A5 := hQ_ (A4.out.step HS.out hr st)
    have X5 := hQ_ (A4.out.blk HS.out X4.out (.inl (.inr rfl)) st)
    have Y5 := hQ_ (A4.out.blk HS.out Y4.out (.inr rfl) st)
    have f5_X0 := cC7 X5.out
    have f5_Y0 := cC7 Y5.out
    clear st hr f4_X0 f4_Y0
    go_wp2_with fail
    refine (HMV.out _ _ _ _ A5.out.rep (lim_aft C5.out.1 HL.out (by omega) (by omega)) (by have := C5.out.1.rd; omega) (by have := C5.out.1.rg; omega)).mono ?_
    intro e w6 hh
    rcases Wrote.split hh with ⟨s6,S6,D6,rfl,ho,hr,st,ha⟩ | ⟨s6,S6,D6,rfl,ho,hr,st,ha⟩
    ·have A6 := hQ_ (A5.out.step HS.out hr st)
     obtain ⟨z1,z2⟩ := C5.out.1.app C5.out.2 ha
     have C6 := hQ_ (And.intro z1 (z2.trans ho))
     clear hr st ha ho z1 z2
     go_wp2_with (go_at_call 75; refine (HRO.out _ _).mono ?_; rintro e w9 ⟨rfl,rfl⟩)
     go_ret
     exact Ans.ok A6.out ⟨C6.out.1.more (by omega) (by omega),C6.out.2⟩
    ·have A6 := hQ_ (A5.out.step HS.out hr st)
     obtain ⟨z1,z2⟩ := C5.out.1.app C5.out.2 ha
     have C6 := hQ_ (And.intro z1 (z2.trans ho))
     clear hr st ha ho z1 z2
     go_wp2_with (go_at_call 75; refine (HRO.out _ _).mono ?_; rintro e w9 ⟨rfl,rfl⟩)
     go_ret
     exact Ans.full A6.out ⟨C6.out.1.more (by omega) (by omega),C6.out.2⟩
   ·have A5 := hQ_ (A4.out.step HS.out hr st)
    have C5 := hQ_ (Aft.thru C3.out (And.intro ha ho))
    clear hr st ha ho
    go_wp2_with fail
    go_ret
    exact Ans.full A5.out ⟨(Aft.stop (qs := mv) C5.out.1 C5.out.2).1.more (by omega) (by omega),(Aft.stop (qs := mv) C5.out.1 C5.out.2).2⟩
theorem ren_calls (hW0 : Wk Rep) (old path : ByteArray) (hr : Rep w v s S D) (hl : Lim s) (h2 : s.rd.length ≤ 18000) (h3 : s.rg.length ≤ 900) (hx : Mxs w S) (hp : old.size ≤ 100000) (hp2 : path.size ≤ 100000) (hk : ∀ p ∈ s.shown,(sp p.key).letter ≠ 0) (hnb : ∀ p ∈ s.shown,∀ i,blkB i p = false) :
 Calls Tryz.prog 29 #[v,.string old,.string path] w (Ans Rep v s (renV s.shown old path).1 (renV s.shown old path).2 84 1 S D w) := by
 obtain ⟨⟨⟨xd,xn,xi,⟨xk,xl,xz,xp⟩⟩,er⟩,hR⟩ : ∃ R,findM s.shown old = R := ⟨_,rfl⟩
 obtain ⟨⟨⟨yd,yn,yi,⟨yk,yl,yz,yp⟩⟩,er2⟩,hR2⟩ : ∃ R,findM s.shown path = R := ⟨_,rfl⟩
 unfold renV
 have h := hR
 have h' := hR2
 rw [hR,hR2]
 dsimp only
 by_cases he : er = 0
 ·rw [if_neg (fun h => h he)]
  by_cases h1 : xi = 1
  ·rw [if_pos h1]
   exact ren_root hW0 old path hr hl h2 h3 hx hp hp2 h he h1
  ·rw [if_neg h1]
   by_cases h0 : xi = 0
   ·rw [if_pos h0]
    exact ren_none hW0 old path hr hl h2 h3 hx hp hp2 h he h0
   ·rw [if_neg h0]
    by_cases he2 : er2 = 0
    ·rw [if_neg (fun h => h he2)]
     by_cases h5 : yi = 1
     ·rw [if_pos h5]
      exact ren_root2 hW0 old path hr hl h2 h3 hx hp hp2 h h' he h0 h1 he2 h5
     ·rw [if_neg h5]
      by_cases h4 : xi = yi
      ·rw [if_pos h4]
       exact ren_same hW0 old path hr hl h2 h3 hx hp hp2 h h' he h0 h1 he2 h5 h4
      ·rw [if_neg h4]
       by_cases h6 : xk = 2
       ·by_cases hu : under (spl old).1 (spl path).1 = true
        ·rw [if_pos ⟨h6,hu⟩]
         exact ren_into hW0 old path hr hl h2 h3 hx hp hp2 h h' he h0 h1 he2 h5 h4 h6 hu
        ·rw [if_neg (fun h => hu h.2),decide_eq_true h6]
         obtain ⟨⟨rx,ps⟩,hrx⟩ : ∃ r,clrV s.shown ⟨yd,yn,yi,⟨yk,yl,yz,yp⟩⟩ true = r := ⟨_,rfl⟩
         have hrx' := hrx
         rw [hrx]
         dsimp only
         by_cases hx0 : rx = 0
         ·rw [if_neg (fun h => h hx0)]
          subst hx0
          exact ren_do_t hW0 old path hr hl h2 h3 hx hp hp2 h h' he h0 h1 he2 h5 h4 hk hnb h6 (Bool.eq_false_iff.2 hu) hrx'
         ·rw [if_pos hx0]
          exact ren_rep_t hW0 old path hr hl h2 h3 hx hp hp2 h h' he h0 h1 he2 h5 h4 hk hnb h6 (Bool.eq_false_iff.2 hu) hrx' hx0
       ·rw [if_neg (fun h => h6 h.1),decide_eq_false h6]
        obtain ⟨⟨rx,ps⟩,hrx⟩ : ∃ r,clrV s.shown ⟨yd,yn,yi,⟨yk,yl,yz,yp⟩⟩ false = r := ⟨_,rfl⟩
        have hrx' := hrx
        rw [hrx]
        dsimp only
        by_cases hx0 : rx = 0
        ·rw [if_neg (fun h => h hx0)]
         subst hx0
         exact ren_do_f hW0 old path hr hl h2 h3 hx hp hp2 h h' he h0 h1 he2 h5 h4 hk hnb h6 hrx'
        ·rw [if_pos hx0]
         exact ren_rep_f hW0 old path hr hl h2 h3 hx hp hp2 h h' he h0 h1 he2 h5 h4 hk hnb h6 hrx' hx0
    ·rw [if_pos he2]
     by_cases h5 : yi = 1
     ·exact ren_err2_1 hW0 old path hr hl h2 h3 hx hp hp2 h h' he h0 h1 he2 h5
     ·exact ren_err2_0 hW0 old path hr hl h2 h3 hx hp hp2 h h' he h0 h1 he2 h5
 ·rw [if_pos he]
  exact ren_err hW0 old path hr hl h2 h3 hx hp hp2 h he
end Go.Proofs.YtfalhnomhidkcaaGreatDoor.DirsKh
namespace Go.Proofs.YtfalhnomhidkcaaGreatDoor.DirsL
open Go.RowKit
open Byte KeysM TreeM ViewM NamesM NamesL Lst Ho Tx WalkF Chg TreeL ViewL WalkL Vat DirsM DirsV DirsR DirsRe DirsK DirsKa DirsKc
open Own hiding keeps
open ViewR (Sh)
variable {Rep : RepT}
def Mine (w : World) (b : Nat) : Prop := w.heap.size ≤ b ∧ b < w.heap.size + 4
structure InvD (Rep : RepT) (w0 : World) (S0 D0 : Nat → Prop) (Q : Nat → Prop) (cs : Array Value) (h0 hn : Sh) (u : World) (v : Value) (s : Vs) (S D : Nat → Prop) (h : Sh) (F : Fs) : Prop where
 A : At Rep w0 S0 D0 (Mine w0) u v s S D
 fs : Blk u w0.heap.size #[.slice h0.a h0.n h0.c] 29
 op : Blk u (w0.heap.size + 1) cs 33
 res : Blk u (w0.heap.size + 1 + 1) #[.slice none 0 0] 29
 lies : FsA (fun b => ¬ S b ∧ ¬ Mine w0 b ∧ Q b) u h F
 mx : Mxs u S
 ml : 0 < w0.heap.size
 nx : Blk u (w0.heap.size + 1 + 1 + 1) #[.slice hn.a hn.n hn.c] 29
section
variable {w0 u u' : World} {S0 D0 S D S' D' : Nat → Prop} {Q : Nat → Prop} {cs : Array Value} {h0 hn h h' : Sh} {v : Value} {s s' : Vs} {F F' : Fs}
theorem InvD.below (hS : Stays Rep) (I : InvD Rep w0 S0 D0 Q cs h0 hn u v s S D h F) (hb : Below u.heap.size u u') : InvD Rep w0 S0 D0 Q cs h0 hn u' v s S D h F :=
 ⟨I.A.below hS hb,I.fs.below hb,I.op.below hb,I.res.below hb,I.lies.below hb,I.mx.below hb,I.ml,I.nx.below hb⟩
theorem InvD.view (hS : Stays Rep) (I : InvD Rep w0 S0 D0 Q cs h0 hn u v s S D h F) (hr : Rep u' v s' S' D') (st : Stp S D S' D' u u') : InvD Rep w0 S0 D0 Q cs h0 hn u' v s' S' D' h F := by
 refine ⟨I.A.step hS hr st,I.A.blk hS I.fs ⟨Nat.le_refl _,by omega⟩ st,I.A.blk hS I.op ⟨by omega,by omega⟩ st,I.A.blk hS I.res ⟨by omega,by omega⟩ st,I.lies.chg st.chg (fun b hb hlt => ⟨hb.1,fun hs => ?_,hb.2⟩),I.mx.step st,I.ml,I.A.blk hS I.nx ⟨by omega,by omega⟩ st⟩
 rcases st.own b hs with h1 | h1
 ·exact hb.1 h1
 ·omega
theorem InvD.start (hS : Stays Rep) {w : World} (hr : Rep w v s S D) (hf : FsA (fun b => ¬ S b ∧ Q b) w h F) (hx : Mxs w S) (cs : Array Value) {W0 : World} (hW : ((w.alloc (.cells #[.slice h.a h.n h.c] 29)).alloc (.cells cs 33)).alloc (.cells #[.slice none 0 0] 29) = W0) :
 Hid (InvD Rep w S D Q cs h h (W0.alloc (.cells #[.slice h.a h.n h.c] 29)) v s S D h F) ∧ W0.cell? ⟨w.heap.size,0,none⟩ = some (.slice h.a h.n h.c) := by
 have b1 := bN_ w (.cells #[.slice h.a h.n h.c] 29)
 have hsz : W0.heap.size = w.heap.size + 3 := by rw [← hW]; simp
 have k1 : Blk W0 w.heap.size #[.slice h.a h.n h.c] 29 := by rw [← hW]; exact ((Blk.new_ w _ _).alloc _).alloc _
 have k2 : Blk W0 (w.heap.size + 1) cs 33 := by
  rw [← hW]
  have := (Blk.new_ (w.alloc (.cells #[.slice h.a h.n h.c] 29)) cs 33).alloc (.cells #[.slice none 0 0] 29)
  simpa using this
 have k3 : Blk W0 (w.heap.size + 2) #[.slice none 0 0] 29 := by
  rw [← hW]
  have := Blk.new_ ((w.alloc (.cells #[.slice h.a h.n h.c] 29)).alloc (.cells cs 33)) #[.slice none 0 0] 29
  simpa using this
 have hb : Below w.heap.size w W0 := by rw [← hW]; exact (b1.alloc (by simp) _).alloc (by simp; omega) _
 have hb2 := nW_ hb (.cells #[.slice h.a h.n h.c] 29)
 have a1 := (At.start hr).owns hS hb2 (Q := Mine w) (fun b hb => ⟨hb.1,by have := hb.2; simp [hsz]; omega⟩)
 refine ⟨hQ_ ⟨a1.less (fun b hb => .inr hb),k1.alloc _,k2.alloc _,k3.alloc _,?_,hx.below hb2,hx.lt,by have := Blk.new_ W0 #[.slice h.a h.n h.c] 29; rw [hsz] at this; exact this⟩,k1.cell 0⟩
 exact (hf.chg (S := fun _ => False) (Chg.refl _ w) (fun b hb hlt => ⟨fun h => h,hb.1,fun hm => by have := hm.1; omega,hb.2⟩)).below hb2
theorem results_row3 {P : Program} {fn : Func} {a b p : Tmp} {ty : TypeId} (h : fn.results = #[.tmp a,.cell p ty,.tmp b]) (tmps : Array Value) (w : World) (g : Nat) (t : TypeId) (cs : Array Value) (fr : Nat × Nat) (d : TypeDesc)
 (hp : tmps.getD p undef = .pointer (some ⟨g,0,none⟩)) (x y : Value) (hx : tmps.getD a undef = x) (hy : tmps.getD b undef = y) (hg : w.heap[g]? = some (.cells cs t fr)) (hu : P.underlying ty = some d) (hd : (match d with | .struct _ | .array _ _ => true | _ => false) = true) (hi : (P.info? ty).map (·.size) = some cs.size) :
 (results fn tmps).run P w = .ok (.tuple #[x,.agg cs,y]) w := by
 subst hx hy
 have hp' : tmps[p]?.getD undef = .pointer (some ⟨g,0,none⟩) := by simpa using hp
 simp [results,h,hp',asAddr,run_loadVar_row w g t ty cs fr d hg hu hd hi]
theorem InvD.next (hS : Stays Rep) (I : InvD Rep w0 S0 D0 Q cs h0 hn u v s S D h F) {G : Fs} (hf : FsA (fun b => ¬ S b ∧ ¬ Mine w0 b ∧ Q b) u h' G) (hg : u.grownBy u' (some (w0.heap.size + 1 + 1 + 1))) (hk : Blk u' (w0.heap.size + 1 + 1 + 1) #[.slice h'.a h'.n h'.c] 29) :
 InvD Rep w0 S0 D0 Q cs h0 h' u' v s S D h F ∧ FsA (fun b => ¬ S b ∧ ¬ Mine w0 b ∧ Q b) u' h' G := by
 have hc : Chg (fun b => b = w0.heap.size + 1 + 1 + 1) u u' := Chg.of_grown hg (fun k e => .inl (by injection e with e; exact e.symm))
 have hm : ∀ b,(¬ S b ∧ ¬ Mine w0 b ∧ Q b) → b < u.heap.size → ¬ (b = w0.heap.size + 1 + 1 + 1) ∧ (¬ S b ∧ ¬ Mine w0 b ∧ Q b) := fun b hb _ => ⟨fun e => hb.2.1 (by rw [e]; exact ⟨by omega,by omega⟩),hb⟩
 refine ⟨⟨I.A.stored hS I.nx ⟨by omega,by omega⟩ (by decide) hg,I.fs.grown hg (by omega),I.op.grown hg (by omega),I.res.grown hg (by omega),I.lies.chg hc hm,⟨?_,I.mx.2⟩,I.ml,hk⟩,hf.chg hc hm⟩
 obtain ⟨m,hm2⟩ := I.mx.1
 exact ⟨m,hc.cell hm2 (by have := I.ml; show ¬ 0 = _; omega)⟩
theorem InvD.ret (hS : Stays Rep) (I : InvD Rep w0 S0 D0 Q cs h0 hn u v s S D h F) {G : Fs} (hf : FsA (fun b => ¬ S b ∧ ¬ Mine w0 b ∧ Q b) u h' G) :
 At Rep w0 S0 D0 (Mine w0) (u.setCell ⟨w0.heap.size + 1 + 1,0,none⟩ (.slice h'.a h'.n h'.c)) v s S D ∧ FsA (fun b => ¬ S b ∧ Q b) (u.setCell ⟨w0.heap.size + 1 + 1,0,none⟩ (.slice h'.a h'.n h'.c)) h' G ∧ Blk (u.setCell ⟨w0.heap.size + 1 + 1,0,none⟩ (.slice h'.a h'.n h'.c)) (w0.heap.size + 1 + 1) #[.slice h'.a h'.n h'.c] 29 :=
 ⟨I.A.set hS I.res ⟨by omega,by omega⟩ (by decide) 0 _,hf.chg (S := fun b => b = w0.heap.size + 1 + 1) ((Chg.refl (fun b => b = w0.heap.size + 1 + 1) u).setCell (p := ⟨w0.heap.size + 1 + 1,0,none⟩) (.inl rfl) _) (fun b hb _ => ⟨fun e => hb.2.1 (by rw [e]; exact ⟨by omega,by omega⟩),hb.1,hb.2.2⟩),I.res.set_ 0 _⟩
end
def DoE (Rep : RepT) (Q : Nat → Prop) (v : Value) (s : Vs) (ps : List Wrt) (kk m : Nat) (S D : Nat → Prop) (h : Sh) (F F' : Fs) (w : World) (e : Ending) (w' : World) : Prop :=
 ∃ s' S' D' h',e = .returned (.tuple #[.bool true,.agg #[.slice h'.a h'.n h'.c],.bool (!(goW s ps).2)]) ∧ Rep w' v s' S' D' ∧ Stp S D S' D' w w' ∧ Aft s s' ps kk m ∧ FsA (fun b => ¬ S' b ∧ Q b) w' h' (if (goW s ps).2 = true then F' else F)
theorem DoE.ok {Q : Nat → Prop} {v : Value} {s s' : Vs} {ps : List Wrt} {kk m : Nat} {S D M S' D' : Nat → Prop} {h h' : Sh} {F F' : Fs} {w w' : World} (hA : At Rep w S D M w' v s' S' D') (hf : FsA (fun b => ¬ S' b ∧ Q b) w' h' F') (hg : (goW s ps).2 = true) (ha : Aft s s' ps kk m) : DoE Rep Q v s ps kk m S D h F F' w (.returned (.tuple #[.bool true,.agg #[.slice h'.a h'.n h'.c],.bool false])) w' :=
 ⟨s',S',D',h',by rw [hg]; rfl,hA.rep,hA.st,ha,by rw [if_pos hg]; exact hf⟩
theorem DoE.full {Q : Nat → Prop} {v : Value} {s s' : Vs} {ps : List Wrt} {kk m : Nat} {S D M S' D' : Nat → Prop} {h h' : Sh} {F F' : Fs} {w w' : World} (hA : At Rep w S D M w' v s' S' D') (hf : FsA (fun b => ¬ S' b ∧ Q b) w' h' F) (hg : (goW s ps).2 = false) (ha : Aft s s' ps kk m) : DoE Rep Q v s ps kk m S D h F F' w (.returned (.tuple #[.bool true,.agg #[.slice h'.a h'.n h'.c],.bool true])) w' :=
 ⟨s',S',D',h',by rw [hg]; rfl,hA.rep,hA.st,ha,by rw [if_neg (by rw [hg]; decide)]; exact hf⟩
theorem do_mk1 (hS : Stays Rep) {w : World} {v : Value} {s : Vs} {S D : Nat → Prop} {h : Sh} {F F' : Fs} (path other : ByteArray) (ino : Int) {er : Int} {ps : List Wrt} {kk m : Nat} (hr : Rep w v s S D) {Q : Nat → Prop} (hf : FsA (fun b => ¬ S b ∧ Q b) w h F) (hQ : ∀ b,w.heap.size ≤ b → Q b) (hx : Mxs w S) (h21 : er ≠ 21)
 (hV : ∀ u S D,Rep u v s S D → Mxs u S → Calls Tryz.prog 43 #[v,.string path,.int .u8 1,.int .u32 ino] u (Ans Rep v s er ps kk m S D u))
 (hM : ∀ T u,FsA T u h F → (∀ b,u.heap.size ≤ b → T b) → Calls Tryz.prog 44 #[.agg #[.slice h.a h.n h.c],.string path,.int .u8 1,.int .u32 ino] u (AnsE T (er,F') u)) :
 Calls Tryz.prog 15 #[v,.agg #[.slice h.a h.n h.c],.agg #[.int .i64 0,.string path,.string other],.int .u32 ino] w (DoE Rep Q v s ps kk m S D h F F' w) := by
 obtain ⟨W,hW⟩ : ∃ W,((w.alloc (.cells #[.slice h.a h.n h.c] 29)).alloc (.cells #[.int .i64 0,.string path,.string other] 33)).alloc (.cells #[.slice none 0 0] 29) = W := ⟨_,rfl⟩
 obtain ⟨I0,W_0⟩ := InvD.start hS hr hf hx #[.int .i64 0,.string path,.string other] hW
 have HW := hQ_ hW
 have HS := hQ_ hS
 have HV := hQ_ hV
 have HM := hQ_ hM
 have HQ := hQ_ hQ
 have d21 : (er == 21) = false := by simpa using h21
 have V_0 := cZ0 I0.out.fs
 have V_1 := cC3 I0.out.op
 clear hr hf hx hV hM hW hS h21 hQ
 go_enter Tryz.func15,Tryz.ntmps15
 go_wp2_with fail
 rw [HW.out]
 go_wp2_with fail
 refine (HV.out _ _ _ I0.out.A.rep I0.out.mx).mono ?_
 intro e u1 ha
 rcases ha.split with ⟨s',S',D',rfl,hgo,hr1,st1,aft⟩ | ⟨s',S',D',rfl,hgo,hr1,st1,aft⟩
 ·have I1 := hQ_ (I0.out.view HS.out hr1 st1)
  have HA := hQ_ (And.intro hgo aft)
  have f1_0 := cZ0 I1.out.fs
  have f1_2 := cZ1 I1.out.op
  have f1_3 := cZ2 I1.out.op
  clear W_0 V_0 hgo hr1 st1 aft ha V_1
  go_wp2_with fail
  refine (HM.out _ _ I1.out.lies (fun b hb => ⟨fun q => by have h1 := HS.out.lt I1.out.A.rep b (HS.out.sub I1.out.A.rep b q); omega,fun q => by have h1 := I1.out.nx.lt; have h2 := q.2; omega,HQ.out b (Nat.le_trans I1.out.A.size hb)⟩)).mono ?_
  rintro e u2 ⟨h2,rfl,hf2,hb2⟩
  have I2 := hQ_ (I1.out.below HS.out hb2)
  have HF2 := hQ_ hf2
  have f2_0 := cZ0 I2.out.fs
  have d22 : (er == er) = true := by simp
  clear f1_0 f1_2 f1_3 hf2 hb2
  go_wp2_with ((with_reducible refine pick none ?_); refine store_blk rfl 29 _ _ rfl (w.heap.size + 1 + 1 + 1) #[.slice h2.a h2.n h2.c] rfl rfl 29 _ I2.out.nx info_fs rfl (by simp [Value.oneCell']) ?_; intro u3 hk3 hg3; obtain ⟨i3,l3⟩ := I2.out.next HS.out HF2.out hg3 hk3; have I3 := hQ_ i3; have L3 := hQ_ l3; have f3_0 : u3.cell? ⟨w.heap.size,0,none⟩ = some (.slice h.a h.n h.c) := I3.out.fs.cell 0; have f3_n : u3.cell? ⟨w.heap.size + 1 + 1 + 1,0,none⟩ = some (.slice h2.a h2.n h2.c) := I3.out.nx.cell 0; clear hk3 hg3 f2_0 i3 l3)
  have r1 := cZ0 I3.out.res
  have r2 : u3.frozen? ⟨w.heap.size + 1 + 1,0,none⟩ = false := I3.out.res.frozen 0
  go_region_law (fail)
  all_goals
   obtain ⟨f1,f2,f3⟩ := I3.out.ret HS.out L3.out
   have HF1 := hQ_ (And.intro f1 f2)
   have HF3 := hQ_ f3
   clear f1 f2 f3
   go_wp2_with fail
   first
    | exact bodyPost_ret (v := .tuple #[.bool true,.agg #[.slice h2.a h2.n h2.c],.bool false]) (results_row3 rfl _ _ (w.heap.size + 1 + 1) 29 _ (0,0) _ rfl _ _ rfl rfl HF3.out Tryz.underlying29 rfl info_fs) rfl (DoE.ok HF1.out.1 HF1.out.2 HA.out.1 HA.out.2)
    | exact bodyPost_ret (v := .tuple #[.bool true,.agg #[.slice h2.a h2.n h2.c],.bool false]) (results_row3 rfl _ _ (w.heap.size + 1 + 1) 29 _ (0,0) _ rfl _ _ rfl rfl HF3.out.drew Tryz.underlying29 rfl info_fs) rfl (DoE.ok (HF1.out.1.below HS.out ((Below.refl _ _).drew)) (HF1.out.2.below ((Below.refl _ _).drew)) HA.out.1 HA.out.2)
 ·have I1 := hQ_ (I0.out.view HS.out hr1 st1)
  have HA := hQ_ (And.intro hgo aft)
  have f1_0 := cZ0 I1.out.fs
  have f1_2 := cZ1 I1.out.op
  have f1_3 := cZ2 I1.out.op
  clear W_0 V_0 hgo hr1 st1 aft ha V_1
  go_wp2_with fail
  refine (HM.out _ _ I1.out.lies (fun b hb => ⟨fun q => by have h1 := HS.out.lt I1.out.A.rep b (HS.out.sub I1.out.A.rep b q); omega,fun q => by have h1 := I1.out.nx.lt; have h2 := q.2; omega,HQ.out b (Nat.le_trans I1.out.A.size hb)⟩)).mono ?_
  rintro e u2 ⟨h2,rfl,hf2,hb2⟩
  have I2 := hQ_ (I1.out.below HS.out hb2)
  have HF2 := hQ_ hf2
  have f2_0 := cZ0 I2.out.fs
  have d22 : (er == er) = true := by simp
  clear f1_0 f1_2 f1_3 hf2 hb2
  go_wp2_with ((with_reducible refine pick none ?_); refine store_blk rfl 29 _ _ rfl (w.heap.size + 1 + 1 + 1) #[.slice h2.a h2.n h2.c] rfl rfl 29 _ I2.out.nx info_fs rfl (by simp [Value.oneCell']) ?_; intro u3 hk3 hg3; obtain ⟨i3,l3⟩ := I2.out.next HS.out HF2.out hg3 hk3; have I3 := hQ_ i3; have L3 := hQ_ l3; have f3_0 : u3.cell? ⟨w.heap.size,0,none⟩ = some (.slice h.a h.n h.c) := I3.out.fs.cell 0; have f3_n : u3.cell? ⟨w.heap.size + 1 + 1 + 1,0,none⟩ = some (.slice h2.a h2.n h2.c) := I3.out.nx.cell 0; clear hk3 hg3 f2_0 i3 l3)
  have r1 := cZ0 I3.out.res
  have r2 : u3.frozen? ⟨w.heap.size + 1 + 1,0,none⟩ = false := I3.out.res.frozen 0
  go_region_law (fail)
  all_goals
   obtain ⟨f1,f2,f3⟩ := I3.out.ret HS.out I3.out.lies
   have HF1 := hQ_ (And.intro f1 f2)
   have HF3 := hQ_ f3
   clear f1 f2 f3
   go_wp2_with fail
   first
    | exact bodyPost_ret (v := .tuple #[.bool true,.agg #[.slice h.a h.n h.c],.bool true]) (results_row3 rfl _ _ (w.heap.size + 1 + 1) 29 _ (0,0) _ rfl _ _ rfl rfl HF3.out Tryz.underlying29 rfl info_fs) rfl (DoE.full HF1.out.1 HF1.out.2 HA.out.1 HA.out.2)
    | exact bodyPost_ret (v := .tuple #[.bool true,.agg #[.slice h.a h.n h.c],.bool true]) (results_row3 rfl _ _ (w.heap.size + 1 + 1) 29 _ (0,0) _ rfl _ _ rfl rfl HF3.out.drew Tryz.underlying29 rfl info_fs) rfl (DoE.full (HF1.out.1.below HS.out ((Below.refl _ _).drew)) (HF1.out.2.below ((Below.refl _ _).drew)) HA.out.1 HA.out.2)
theorem do_mk2 (hS : Stays Rep) {w : World} {v : Value} {s : Vs} {S D : Nat → Prop} {h : Sh} {F F' : Fs} (path other : ByteArray) (ino : Int) {er : Int} {ps : List Wrt} {kk m : Nat} (hr : Rep w v s S D) {Q : Nat → Prop} (hf : FsA (fun b => ¬ S b ∧ Q b) w h F) (hQ : ∀ b,w.heap.size ≤ b → Q b) (hx : Mxs w S) (h21 : er ≠ 21)
 (hV : ∀ u S D,Rep u v s S D → Mxs u S → Calls Tryz.prog 43 #[v,.string path,.int .u8 2,.int .u32 ino] u (Ans Rep v s er ps kk m S D u))
 (hM : ∀ T u,FsA T u h F → (∀ b,u.heap.size ≤ b → T b) → Calls Tryz.prog 44 #[.agg #[.slice h.a h.n h.c],.string path,.int .u8 2,.int .u32 ino] u (AnsE T (er,F') u)) :
 Calls Tryz.prog 15 #[v,.agg #[.slice h.a h.n h.c],.agg #[.int .i64 1,.string path,.string other],.int .u32 ino] w (DoE Rep Q v s ps kk m S D h F F' w) := by
 obtain ⟨W,hW⟩ : ∃ W,((w.alloc (.cells #[.slice h.a h.n h.c] 29)).alloc (.cells #[.int .i64 1,.string path,.string other] 33)).alloc (.cells #[.slice none 0 0] 29) = W := ⟨_,rfl⟩
 obtain ⟨I0,W_0⟩ := InvD.start hS hr hf hx #[.int .i64 1,.string path,.string other] hW
 have HW := hQ_ hW
 have HS := hQ_ hS
 have HV := hQ_ hV
 have HM := hQ_ hM
 have HQ := hQ_ hQ
 have d21 : (er == 21) = false := by simpa using h21
 have V_0 := cZ0 I0.out.fs
 have V_1 := cC3 I0.out.op
 clear hr hf hx hV hM hW hS h21 hQ
 go_enter Tryz.func15,Tryz.ntmps15
 go_wp2_with fail
 rw [HW.out]
 go_wp2_with fail
 refine (HV.out _ _ _ I0.out.A.rep I0.out.mx).mono ?_
 intro e u1 ha
 rcases ha.split with ⟨s',S',D',rfl,hgo,hr1,st1,aft⟩ | ⟨s',S',D',rfl,hgo,hr1,st1,aft⟩
 ·have I1 := hQ_ (I0.out.view HS.out hr1 st1)
  have HA := hQ_ (And.intro hgo aft)
  have f1_0 := cZ0 I1.out.fs
  have f1_2 := cZ1 I1.out.op
  have f1_3 := cZ2 I1.out.op
  clear W_0 V_0 hgo hr1 st1 aft ha V_1
  go_wp2_with fail
  refine (HM.out _ _ I1.out.lies (fun b hb => ⟨fun q => by have h1 := HS.out.lt I1.out.A.rep b (HS.out.sub I1.out.A.rep b q); omega,fun q => by have h1 := I1.out.nx.lt; have h2 := q.2; omega,HQ.out b (Nat.le_trans I1.out.A.size hb)⟩)).mono ?_
  rintro e u2 ⟨h2,rfl,hf2,hb2⟩
  have I2 := hQ_ (I1.out.below HS.out hb2)
  have HF2 := hQ_ hf2
  have f2_0 := cZ0 I2.out.fs
  have d22 : (er == er) = true := by simp
  clear f1_0 f1_2 f1_3 hf2 hb2
  go_wp2_with ((with_reducible refine pick none ?_); refine store_blk rfl 29 _ _ rfl (w.heap.size + 1 + 1 + 1) #[.slice h2.a h2.n h2.c] rfl rfl 29 _ I2.out.nx info_fs rfl (by simp [Value.oneCell']) ?_; intro u3 hk3 hg3; obtain ⟨i3,l3⟩ := I2.out.next HS.out HF2.out hg3 hk3; have I3 := hQ_ i3; have L3 := hQ_ l3; have f3_0 : u3.cell? ⟨w.heap.size,0,none⟩ = some (.slice h.a h.n h.c) := I3.out.fs.cell 0; have f3_n : u3.cell? ⟨w.heap.size + 1 + 1 + 1,0,none⟩ = some (.slice h2.a h2.n h2.c) := I3.out.nx.cell 0; clear hk3 hg3 f2_0 i3 l3)
  have r1 := cZ0 I3.out.res
  have r2 : u3.frozen? ⟨w.heap.size + 1 + 1,0,none⟩ = false := I3.out.res.frozen 0
  go_region_law (fail)
  all_goals
   obtain ⟨f1,f2,f3⟩ := I3.out.ret HS.out L3.out
   have HF1 := hQ_ (And.intro f1 f2)
   have HF3 := hQ_ f3
   clear f1 f2 f3
   go_wp2_with fail
   first
    | exact bodyPost_ret (v := .tuple #[.bool true,.agg #[.slice h2.a h2.n h2.c],.bool false]) (results_row3 rfl _ _ (w.heap.size + 1 + 1) 29 _ (0,0) _ rfl _ _ rfl rfl HF3.out Tryz.underlying29 rfl info_fs) rfl (DoE.ok HF1.out.1 HF1.out.2 HA.out.1 HA.out.2)
    | exact bodyPost_ret (v := .tuple #[.bool true,.agg #[.slice h2.a h2.n h2.c],.bool false]) (results_row3 rfl _ _ (w.heap.size + 1 + 1) 29 _ (0,0) _ rfl _ _ rfl rfl HF3.out.drew Tryz.underlying29 rfl info_fs) rfl (DoE.ok (HF1.out.1.below HS.out ((Below.refl _ _).drew)) (HF1.out.2.below ((Below.refl _ _).drew)) HA.out.1 HA.out.2)
 ·have I1 := hQ_ (I0.out.view HS.out hr1 st1)
  have HA := hQ_ (And.intro hgo aft)
  have f1_0 := cZ0 I1.out.fs
  have f1_2 := cZ1 I1.out.op
  have f1_3 := cZ2 I1.out.op
  clear W_0 V_0 hgo hr1 st1 aft ha V_1
  go_wp2_with fail
  refine (HM.out _ _ I1.out.lies (fun b hb => ⟨fun q => by have h1 := HS.out.lt I1.out.A.rep b (HS.out.sub I1.out.A.rep b q); omega,fun q => by have h1 := I1.out.nx.lt; have h2 := q.2; omega,HQ.out b (Nat.le_trans I1.out.A.size hb)⟩)).mono ?_
  rintro e u2 ⟨h2,rfl,hf2,hb2⟩
  have I2 := hQ_ (I1.out.below HS.out hb2)
  have HF2 := hQ_ hf2
  have f2_0 := cZ0 I2.out.fs
  have d22 : (er == er) = true := by simp
  clear f1_0 f1_2 f1_3 hf2 hb2
  go_wp2_with ((with_reducible refine pick none ?_); refine store_blk rfl 29 _ _ rfl (w.heap.size + 1 + 1 + 1) #[.slice h2.a h2.n h2.c] rfl rfl 29 _ I2.out.nx info_fs rfl (by simp [Value.oneCell']) ?_; intro u3 hk3 hg3; obtain ⟨i3,l3⟩ := I2.out.next HS.out HF2.out hg3 hk3; have I3 := hQ_ i3; have L3 := hQ_ l3; have f3_0 : u3.cell? ⟨w.heap.size,0,none⟩ = some (.slice h.a h.n h.c) := I3.out.fs.cell 0; have f3_n : u3.cell? ⟨w.heap.size + 1 + 1 + 1,0,none⟩ = some (.slice h2.a h2.n h2.c) := I3.out.nx.cell 0; clear hk3 hg3 f2_0 i3 l3)
  have r1 := cZ0 I3.out.res
  have r2 : u3.frozen? ⟨w.heap.size + 1 + 1,0,none⟩ = false := I3.out.res.frozen 0
  go_region_law (fail)
  all_goals
   obtain ⟨f1,f2,f3⟩ := I3.out.ret HS.out I3.out.lies
   have HF1 := hQ_ (And.intro f1 f2)
   have HF3 := hQ_ f3
   clear f1 f2 f3
   go_wp2_with fail
   first
    | exact bodyPost_ret (v := .tuple #[.bool true,.agg #[.slice h.a h.n h.c],.bool true]) (results_row3 rfl _ _ (w.heap.size + 1 + 1) 29 _ (0,0) _ rfl _ _ rfl rfl HF3.out Tryz.underlying29 rfl info_fs) rfl (DoE.full HF1.out.1 HF1.out.2 HA.out.1 HA.out.2)
    | exact bodyPost_ret (v := .tuple #[.bool true,.agg #[.slice h.a h.n h.c],.bool true]) (results_row3 rfl _ _ (w.heap.size + 1 + 1) 29 _ (0,0) _ rfl _ _ rfl rfl HF3.out.drew Tryz.underlying29 rfl info_fs) rfl (DoE.full (HF1.out.1.below HS.out ((Below.refl _ _).drew)) (HF1.out.2.below ((Below.refl _ _).drew)) HA.out.1 HA.out.2)
theorem do_rmd (hS : Stays Rep) {w : World} {v : Value} {s : Vs} {S D : Nat → Prop} {h : Sh} {F F' : Fs} (path other : ByteArray) (ino : Int) {er : Int} {ps : List Wrt} {kk m : Nat} (hr : Rep w v s S D) {Q : Nat → Prop} (hf : FsA (fun b => ¬ S b ∧ Q b) w h F) (hQ : ∀ b,w.heap.size ≤ b → Q b) (hx : Mxs w S) (h21 : er ≠ 21)
 (hV : ∀ u S D,Rep u v s S D → Mxs u S → Calls Tryz.prog 45 #[v,.string path] u (Ans Rep v s er ps kk m S D u))
 (hM : ∀ T u,FsA T u h F → (∀ b,u.heap.size ≤ b → T b) → Calls Tryz.prog 46 #[.agg #[.slice h.a h.n h.c],.string path] u (AnsE T (er,F') u)) :
 Calls Tryz.prog 15 #[v,.agg #[.slice h.a h.n h.c],.agg #[.int .i64 2,.string path,.string other],.int .u32 ino] w (DoE Rep Q v s ps kk m S D h F F' w) := by
 obtain ⟨W,hW⟩ : ∃ W,((w.alloc (.cells #[.slice h.a h.n h.c] 29)).alloc (.cells #[.int .i64 2,.string path,.string other] 33)).alloc (.cells #[.slice none 0 0] 29) = W := ⟨_,rfl⟩
 obtain ⟨I0,W_0⟩ := InvD.start hS hr hf hx #[.int .i64 2,.string path,.string other] hW
 have HW := hQ_ hW
 have HS := hQ_ hS
 have HV := hQ_ hV
 have HM := hQ_ hM
 have HQ := hQ_ hQ
 have d21 : (er == 21) = false := by simpa using h21
 have V_0 := cZ0 I0.out.fs
 have V_1 := cC3 I0.out.op
 clear hr hf hx hV hM hW hS h21 hQ
 go_enter Tryz.func15,Tryz.ntmps15
 go_wp2_with fail
 rw [HW.out]
 go_wp2_with fail
 refine (HV.out _ _ _ I0.out.A.rep I0.out.mx).mono ?_
 intro e u1 ha
 rcases ha.split with ⟨s',S',D',rfl,hgo,hr1,st1,aft⟩ | ⟨s',S',D',rfl,hgo,hr1,st1,aft⟩
 ·have I1 := hQ_ (I0.out.view HS.out hr1 st1)
  have HA := hQ_ (And.intro hgo aft)
  have f1_0 := cZ0 I1.out.fs
  have f1_2 := cZ1 I1.out.op
  have f1_3 := cZ2 I1.out.op
  clear W_0 V_0 hgo hr1 st1 aft ha V_1
  go_wp2_with fail
  refine (HM.out _ _ I1.out.lies (fun b hb => ⟨fun q => by have h1 := HS.out.lt I1.out.A.rep b (HS.out.sub I1.out.A.rep b q); omega,fun q => by have h1 := I1.out.nx.lt; have h2 := q.2; omega,HQ.out b (Nat.le_trans I1.out.A.size hb)⟩)).mono ?_
  rintro e u2 ⟨h2,rfl,hf2,hb2⟩
  have I2 := hQ_ (I1.out.below HS.out hb2)
  have HF2 := hQ_ hf2
  have f2_0 := cZ0 I2.out.fs
  have d22 : (er == er) = true := by simp
  clear f1_0 f1_2 f1_3 hf2 hb2
  go_wp2_with ((with_reducible refine pick none ?_); refine store_blk rfl 29 _ _ rfl (w.heap.size + 1 + 1 + 1) #[.slice h2.a h2.n h2.c] rfl rfl 29 _ I2.out.nx info_fs rfl (by simp [Value.oneCell']) ?_; intro u3 hk3 hg3; obtain ⟨i3,l3⟩ := I2.out.next HS.out HF2.out hg3 hk3; have I3 := hQ_ i3; have L3 := hQ_ l3; have f3_0 : u3.cell? ⟨w.heap.size,0,none⟩ = some (.slice h.a h.n h.c) := I3.out.fs.cell 0; have f3_n : u3.cell? ⟨w.heap.size + 1 + 1 + 1,0,none⟩ = some (.slice h2.a h2.n h2.c) := I3.out.nx.cell 0; clear hk3 hg3 f2_0 i3 l3)
  have r1 := cZ0 I3.out.res
  have r2 : u3.frozen? ⟨w.heap.size + 1 + 1,0,none⟩ = false := I3.out.res.frozen 0
  go_region_law (fail)
  all_goals
   obtain ⟨f1,f2,f3⟩ := I3.out.ret HS.out L3.out
   have HF1 := hQ_ (And.intro f1 f2)
   have HF3 := hQ_ f3
   clear f1 f2 f3
   go_wp2_with fail
   first
    | exact bodyPost_ret (v := .tuple #[.bool true,.agg #[.slice h2.a h2.n h2.c],.bool false]) (results_row3 rfl _ _ (w.heap.size + 1 + 1) 29 _ (0,0) _ rfl _ _ rfl rfl HF3.out Tryz.underlying29 rfl info_fs) rfl (DoE.ok HF1.out.1 HF1.out.2 HA.out.1 HA.out.2)
    | exact bodyPost_ret (v := .tuple #[.bool true,.agg #[.slice h2.a h2.n h2.c],.bool false]) (results_row3 rfl _ _ (w.heap.size + 1 + 1) 29 _ (0,0) _ rfl _ _ rfl rfl HF3.out.drew Tryz.underlying29 rfl info_fs) rfl (DoE.ok (HF1.out.1.below HS.out ((Below.refl _ _).drew)) (HF1.out.2.below ((Below.refl _ _).drew)) HA.out.1 HA.out.2)
 ·have I1 := hQ_ (I0.out.view HS.out hr1 st1)
  have HA := hQ_ (And.intro hgo aft)
  have f1_0 := cZ0 I1.out.fs
  have f1_2 := cZ1 I1.out.op
  have f1_3 := cZ2 I1.out.op
  clear W_0 V_0 hgo hr1 st1 aft ha V_1
  go_wp2_with fail
  refine (HM.out _ _ I1.out.lies (fun b hb => ⟨fun q => by have h1 := HS.out.lt I1.out.A.rep b (HS.out.sub I1.out.A.rep b q); omega,fun q => by have h1 := I1.out.nx.lt; have h2 := q.2; omega,HQ.out b (Nat.le_trans I1.out.A.size hb)⟩)).mono ?_
  rintro e u2 ⟨h2,rfl,hf2,hb2⟩
  have I2 := hQ_ (I1.out.below HS.out hb2)
  have HF2 := hQ_ hf2
  have f2_0 := cZ0 I2.out.fs
  have d22 : (er == er) = true := by simp
  clear f1_0 f1_2 f1_3 hf2 hb2
  go_wp2_with ((with_reducible refine pick none ?_); refine store_blk rfl 29 _ _ rfl (w.heap.size + 1 + 1 + 1) #[.slice h2.a h2.n h2.c] rfl rfl 29 _ I2.out.nx info_fs rfl (by simp [Value.oneCell']) ?_; intro u3 hk3 hg3; obtain ⟨i3,l3⟩ := I2.out.next HS.out HF2.out hg3 hk3; have I3 := hQ_ i3; have L3 := hQ_ l3; have f3_0 : u3.cell? ⟨w.heap.size,0,none⟩ = some (.slice h.a h.n h.c) := I3.out.fs.cell 0; have f3_n : u3.cell? ⟨w.heap.size + 1 + 1 + 1,0,none⟩ = some (.slice h2.a h2.n h2.c) := I3.out.nx.cell 0; clear hk3 hg3 f2_0 i3 l3)
  have r1 := cZ0 I3.out.res
  have r2 : u3.frozen? ⟨w.heap.size + 1 + 1,0,none⟩ = false := I3.out.res.frozen 0
  go_region_law (fail)
  all_goals
   obtain ⟨f1,f2,f3⟩ := I3.out.ret HS.out I3.out.lies
   have HF1 := hQ_ (And.intro f1 f2)
   have HF3 := hQ_ f3
   clear f1 f2 f3
   go_wp2_with fail
   first
    | exact bodyPost_ret (v := .tuple #[.bool true,.agg #[.slice h.a h.n h.c],.bool true]) (results_row3 rfl _ _ (w.heap.size + 1 + 1) 29 _ (0,0) _ rfl _ _ rfl rfl HF3.out Tryz.underlying29 rfl info_fs) rfl (DoE.full HF1.out.1 HF1.out.2 HA.out.1 HA.out.2)
    | exact bodyPost_ret (v := .tuple #[.bool true,.agg #[.slice h.a h.n h.c],.bool true]) (results_row3 rfl _ _ (w.heap.size + 1 + 1) 29 _ (0,0) _ rfl _ _ rfl rfl HF3.out.drew Tryz.underlying29 rfl info_fs) rfl (DoE.full (HF1.out.1.below HS.out ((Below.refl _ _).drew)) (HF1.out.2.below ((Below.refl _ _).drew)) HA.out.1 HA.out.2)
theorem do_lnk (hS : Stays Rep) {w : World} {v : Value} {s : Vs} {S D : Nat → Prop} {h : Sh} {F F' : Fs} (path other : ByteArray) (ino : Int) {er : Int} {ps : List Wrt} {kk m : Nat} (hr : Rep w v s S D) {Q : Nat → Prop} (hf : FsA (fun b => ¬ S b ∧ Q b) w h F) (hQ : ∀ b,w.heap.size ≤ b → Q b) (hx : Mxs w S) (h21 : er ≠ 21)
 (hV : ∀ u S D,Rep u v s S D → Mxs u S → Calls Tryz.prog 31 #[v,.string path,.string other] u (Ans Rep v s er ps kk m S D u))
 (hM : ∀ T u,FsA T u h F → (∀ b,u.heap.size ≤ b → T b) → Calls Tryz.prog 50 #[.agg #[.slice h.a h.n h.c],.string path,.string other] u (AnsE T (er,F') u)) :
 Calls Tryz.prog 15 #[v,.agg #[.slice h.a h.n h.c],.agg #[.int .i64 4,.string path,.string other],.int .u32 ino] w (DoE Rep Q v s ps kk m S D h F F' w) := by
 obtain ⟨W,hW⟩ : ∃ W,((w.alloc (.cells #[.slice h.a h.n h.c] 29)).alloc (.cells #[.int .i64 4,.string path,.string other] 33)).alloc (.cells #[.slice none 0 0] 29) = W := ⟨_,rfl⟩
 obtain ⟨I0,W_0⟩ := InvD.start hS hr hf hx #[.int .i64 4,.string path,.string other] hW
 have HW := hQ_ hW
 have HS := hQ_ hS
 have HV := hQ_ hV
 have HM := hQ_ hM
 have HQ := hQ_ hQ
 have d21 : (er == 21) = false := by simpa using h21
 have V_0 := cZ0 I0.out.fs
 have V_1 := cC3 I0.out.op
 clear hr hf hx hV hM hW hS h21 hQ
 go_enter Tryz.func15,Tryz.ntmps15
 go_wp2_with fail
 rw [HW.out]
 go_wp2_with fail
 refine (HV.out _ _ _ I0.out.A.rep I0.out.mx).mono ?_
 intro e u1 ha
 rcases ha.split with ⟨s',S',D',rfl,hgo,hr1,st1,aft⟩ | ⟨s',S',D',rfl,hgo,hr1,st1,aft⟩
 ·have I1 := hQ_ (I0.out.view HS.out hr1 st1)
  have HA := hQ_ (And.intro hgo aft)
  have f1_0 := cZ0 I1.out.fs
  have f1_2 := cZ1 I1.out.op
  have f1_3 := cZ2 I1.out.op
  clear W_0 V_0 hgo hr1 st1 aft ha V_1
  go_wp2_with fail
  refine (HM.out _ _ I1.out.lies (fun b hb => ⟨fun q => by have h1 := HS.out.lt I1.out.A.rep b (HS.out.sub I1.out.A.rep b q); omega,fun q => by have h1 := I1.out.nx.lt; have h2 := q.2; omega,HQ.out b (Nat.le_trans I1.out.A.size hb)⟩)).mono ?_
  rintro e u2 ⟨h2,rfl,hf2,hb2⟩
  have I2 := hQ_ (I1.out.below HS.out hb2)
  have HF2 := hQ_ hf2
  have f2_0 := cZ0 I2.out.fs
  have d22 : (er == er) = true := by simp
  clear f1_0 f1_2 f1_3 hf2 hb2
  go_wp2_with ((with_reducible refine pick none ?_); refine store_blk rfl 29 _ _ rfl (w.heap.size + 1 + 1 + 1) #[.slice h2.a h2.n h2.c] rfl rfl 29 _ I2.out.nx info_fs rfl (by simp [Value.oneCell']) ?_; intro u3 hk3 hg3; obtain ⟨i3,l3⟩ := I2.out.next HS.out HF2.out hg3 hk3; have I3 := hQ_ i3; have L3 := hQ_ l3; have f3_0 : u3.cell? ⟨w.heap.size,0,none⟩ = some (.slice h.a h.n h.c) := I3.out.fs.cell 0; have f3_n : u3.cell? ⟨w.heap.size + 1 + 1 + 1,0,none⟩ = some (.slice h2.a h2.n h2.c) := I3.out.nx.cell 0; clear hk3 hg3 f2_0 i3 l3)
  have r1 := cZ0 I3.out.res
  have r2 : u3.frozen? ⟨w.heap.size + 1 + 1,0,none⟩ = false := I3.out.res.frozen 0
  go_region_law (fail)
  all_goals
   obtain ⟨f1,f2,f3⟩ := I3.out.ret HS.out L3.out
   have HF1 := hQ_ (And.intro f1 f2)
   have HF3 := hQ_ f3
   clear f1 f2 f3
   go_wp2_with fail
   first
    | exact bodyPost_ret (v := .tuple #[.bool true,.agg #[.slice h2.a h2.n h2.c],.bool false]) (results_row3 rfl _ _ (w.heap.size + 1 + 1) 29 _ (0,0) _ rfl _ _ rfl rfl HF3.out Tryz.underlying29 rfl info_fs) rfl (DoE.ok HF1.out.1 HF1.out.2 HA.out.1 HA.out.2)
    | exact bodyPost_ret (v := .tuple #[.bool true,.agg #[.slice h2.a h2.n h2.c],.bool false]) (results_row3 rfl _ _ (w.heap.size + 1 + 1) 29 _ (0,0) _ rfl _ _ rfl rfl HF3.out.drew Tryz.underlying29 rfl info_fs) rfl (DoE.ok (HF1.out.1.below HS.out ((Below.refl _ _).drew)) (HF1.out.2.below ((Below.refl _ _).drew)) HA.out.1 HA.out.2)
 ·have I1 := hQ_ (I0.out.view HS.out hr1 st1)
  have HA := hQ_ (And.intro hgo aft)
  have f1_0 := cZ0 I1.out.fs
  have f1_2 := cZ1 I1.out.op
  have f1_3 := cZ2 I1.out.op
  clear W_0 V_0 hgo hr1 st1 aft ha V_1
  go_wp2_with fail
  refine (HM.out _ _ I1.out.lies (fun b hb => ⟨fun q => by have h1 := HS.out.lt I1.out.A.rep b (HS.out.sub I1.out.A.rep b q); omega,fun q => by have h1 := I1.out.nx.lt; have h2 := q.2; omega,HQ.out b (Nat.le_trans I1.out.A.size hb)⟩)).mono ?_
  rintro e u2 ⟨h2,rfl,hf2,hb2⟩
  have I2 := hQ_ (I1.out.below HS.out hb2)
  have HF2 := hQ_ hf2
  have f2_0 := cZ0 I2.out.fs
  have d22 : (er == er) = true := by simp
  clear f1_0 f1_2 f1_3 hf2 hb2
  go_wp2_with ((with_reducible refine pick none ?_); refine store_blk rfl 29 _ _ rfl (w.heap.size + 1 + 1 + 1) #[.slice h2.a h2.n h2.c] rfl rfl 29 _ I2.out.nx info_fs rfl (by simp [Value.oneCell']) ?_; intro u3 hk3 hg3; obtain ⟨i3,l3⟩ := I2.out.next HS.out HF2.out hg3 hk3; have I3 := hQ_ i3; have L3 := hQ_ l3; have f3_0 : u3.cell? ⟨w.heap.size,0,none⟩ = some (.slice h.a h.n h.c) := I3.out.fs.cell 0; have f3_n : u3.cell? ⟨w.heap.size + 1 + 1 + 1,0,none⟩ = some (.slice h2.a h2.n h2.c) := I3.out.nx.cell 0; clear hk3 hg3 f2_0 i3 l3)
  have r1 := cZ0 I3.out.res
  have r2 : u3.frozen? ⟨w.heap.size + 1 + 1,0,none⟩ = false := I3.out.res.frozen 0
  go_region_law (fail)
  all_goals
   obtain ⟨f1,f2,f3⟩ := I3.out.ret HS.out I3.out.lies
   have HF1 := hQ_ (And.intro f1 f2)
   have HF3 := hQ_ f3
   clear f1 f2 f3
   go_wp2_with fail
   first
    | exact bodyPost_ret (v := .tuple #[.bool true,.agg #[.slice h.a h.n h.c],.bool true]) (results_row3 rfl _ _ (w.heap.size + 1 + 1) 29 _ (0,0) _ rfl _ _ rfl rfl HF3.out Tryz.underlying29 rfl info_fs) rfl (DoE.full HF1.out.1 HF1.out.2 HA.out.1 HA.out.2)
    | exact bodyPost_ret (v := .tuple #[.bool true,.agg #[.slice h.a h.n h.c],.bool true]) (results_row3 rfl _ _ (w.heap.size + 1 + 1) 29 _ (0,0) _ rfl _ _ rfl rfl HF3.out.drew Tryz.underlying29 rfl info_fs) rfl (DoE.full (HF1.out.1.below HS.out ((Below.refl _ _).drew)) (HF1.out.2.below ((Below.refl _ _).drew)) HA.out.1 HA.out.2)
theorem do_ulk (hS : Stays Rep) {w : World} {v : Value} {s : Vs} {S D : Nat → Prop} {h : Sh} {F F' : Fs} (path other : ByteArray) (ino : Int) {er : Int} {ps : List Wrt} {kk m : Nat} (hr : Rep w v s S D) {Q : Nat → Prop} (hf : FsA (fun b => ¬ S b ∧ Q b) w h F) (hQ : ∀ b,w.heap.size ≤ b → Q b) (hx : Mxs w S) (h21 : er ≠ 21)
 (hV : ∀ u S D,Rep u v s S D → Mxs u S → Calls Tryz.prog 32 #[v,.string path] u (Ans Rep v s er ps kk m S D u))
 (hM : ∀ T u,FsA T u h F → (∀ b,u.heap.size ≤ b → T b) → Calls Tryz.prog 51 #[.agg #[.slice h.a h.n h.c],.string path] u (AnsE T (er,F') u)) :
 Calls Tryz.prog 15 #[v,.agg #[.slice h.a h.n h.c],.agg #[.int .i64 5,.string path,.string other],.int .u32 ino] w (DoE Rep Q v s ps kk m S D h F F' w) := by
 obtain ⟨W,hW⟩ : ∃ W,((w.alloc (.cells #[.slice h.a h.n h.c] 29)).alloc (.cells #[.int .i64 5,.string path,.string other] 33)).alloc (.cells #[.slice none 0 0] 29) = W := ⟨_,rfl⟩
 obtain ⟨I0,W_0⟩ := InvD.start hS hr hf hx #[.int .i64 5,.string path,.string other] hW
 have HW := hQ_ hW
 have HS := hQ_ hS
 have HV := hQ_ hV
 have HM := hQ_ hM
 have HQ := hQ_ hQ
 have d21 : (er == 21) = false := by simpa using h21
 have V_0 := cZ0 I0.out.fs
 have V_1 := cC3 I0.out.op
 clear hr hf hx hV hM hW hS h21 hQ
 go_enter Tryz.func15,Tryz.ntmps15
 go_wp2_with fail
 rw [HW.out]
 go_wp2_with fail
 refine (HV.out _ _ _ I0.out.A.rep I0.out.mx).mono ?_
 intro e u1 ha
 rcases ha.split with ⟨s',S',D',rfl,hgo,hr1,st1,aft⟩ | ⟨s',S',D',rfl,hgo,hr1,st1,aft⟩
 ·have I1 := hQ_ (I0.out.view HS.out hr1 st1)
  have HA := hQ_ (And.intro hgo aft)
  have f1_0 := cZ0 I1.out.fs
  have f1_2 := cZ1 I1.out.op
  have f1_3 := cZ2 I1.out.op
  clear W_0 V_0 hgo hr1 st1 aft ha V_1
  go_wp2_with fail
  refine (HM.out _ _ I1.out.lies (fun b hb => ⟨fun q => by have h1 := HS.out.lt I1.out.A.rep b (HS.out.sub I1.out.A.rep b q); omega,fun q => by have h1 := I1.out.nx.lt; have h2 := q.2; omega,HQ.out b (Nat.le_trans I1.out.A.size hb)⟩)).mono ?_
  rintro e u2 ⟨h2,rfl,hf2,hb2⟩
  have I2 := hQ_ (I1.out.below HS.out hb2)
  have HF2 := hQ_ hf2
  have f2_0 := cZ0 I2.out.fs
  have d22 : (er == er) = true := by simp
  clear f1_0 f1_2 f1_3 hf2 hb2
  go_wp2_with ((with_reducible refine pick none ?_); refine store_blk rfl 29 _ _ rfl (w.heap.size + 1 + 1 + 1) #[.slice h2.a h2.n h2.c] rfl rfl 29 _ I2.out.nx info_fs rfl (by simp [Value.oneCell']) ?_; intro u3 hk3 hg3; obtain ⟨i3,l3⟩ := I2.out.next HS.out HF2.out hg3 hk3; have I3 := hQ_ i3; have L3 := hQ_ l3; have f3_0 : u3.cell? ⟨w.heap.size,0,none⟩ = some (.slice h.a h.n h.c) := I3.out.fs.cell 0; have f3_n : u3.cell? ⟨w.heap.size + 1 + 1 + 1,0,none⟩ = some (.slice h2.a h2.n h2.c) := I3.out.nx.cell 0; clear hk3 hg3 f2_0 i3 l3)
  have r1 := cZ0 I3.out.res
  have r2 : u3.frozen? ⟨w.heap.size + 1 + 1,0,none⟩ = false := I3.out.res.frozen 0
  go_region_law (fail)
  all_goals
   obtain ⟨f1,f2,f3⟩ := I3.out.ret HS.out L3.out
   have HF1 := hQ_ (And.intro f1 f2)
   have HF3 := hQ_ f3
   clear f1 f2 f3
   go_wp2_with fail
   first
    | exact bodyPost_ret (v := .tuple #[.bool true,.agg #[.slice h2.a h2.n h2.c],.bool false]) (results_row3 rfl _ _ (w.heap.size + 1 + 1) 29 _ (0,0) _ rfl _ _ rfl rfl HF3.out Tryz.underlying29 rfl info_fs) rfl (DoE.ok HF1.out.1 HF1.out.2 HA.out.1 HA.out.2)
    | exact bodyPost_ret (v := .tuple #[.bool true,.agg #[.slice h2.a h2.n h2.c],.bool false]) (results_row3 rfl _ _ (w.heap.size + 1 + 1) 29 _ (0,0) _ rfl _ _ rfl rfl HF3.out.drew Tryz.underlying29 rfl info_fs) rfl (DoE.ok (HF1.out.1.below HS.out ((Below.refl _ _).drew)) (HF1.out.2.below ((Below.refl _ _).drew)) HA.out.1 HA.out.2)
 ·have I1 := hQ_ (I0.out.view HS.out hr1 st1)
  have HA := hQ_ (And.intro hgo aft)
  have f1_0 := cZ0 I1.out.fs
  have f1_2 := cZ1 I1.out.op
  have f1_3 := cZ2 I1.out.op
  clear W_0 V_0 hgo hr1 st1 aft ha V_1
  go_wp2_with fail
  refine (HM.out _ _ I1.out.lies (fun b hb => ⟨fun q => by have h1 := HS.out.lt I1.out.A.rep b (HS.out.sub I1.out.A.rep b q); omega,fun q => by have h1 := I1.out.nx.lt; have h2 := q.2; omega,HQ.out b (Nat.le_trans I1.out.A.size hb)⟩)).mono ?_
  rintro e u2 ⟨h2,rfl,hf2,hb2⟩
  have I2 := hQ_ (I1.out.below HS.out hb2)
  have HF2 := hQ_ hf2
  have f2_0 := cZ0 I2.out.fs
  have d22 : (er == er) = true := by simp
  clear f1_0 f1_2 f1_3 hf2 hb2
  go_wp2_with ((with_reducible refine pick none ?_); refine store_blk rfl 29 _ _ rfl (w.heap.size + 1 + 1 + 1) #[.slice h2.a h2.n h2.c] rfl rfl 29 _ I2.out.nx info_fs rfl (by simp [Value.oneCell']) ?_; intro u3 hk3 hg3; obtain ⟨i3,l3⟩ := I2.out.next HS.out HF2.out hg3 hk3; have I3 := hQ_ i3; have L3 := hQ_ l3; have f3_0 : u3.cell? ⟨w.heap.size,0,none⟩ = some (.slice h.a h.n h.c) := I3.out.fs.cell 0; have f3_n : u3.cell? ⟨w.heap.size + 1 + 1 + 1,0,none⟩ = some (.slice h2.a h2.n h2.c) := I3.out.nx.cell 0; clear hk3 hg3 f2_0 i3 l3)
  have r1 := cZ0 I3.out.res
  have r2 : u3.frozen? ⟨w.heap.size + 1 + 1,0,none⟩ = false := I3.out.res.frozen 0
  go_region_law (fail)
  all_goals
   obtain ⟨f1,f2,f3⟩ := I3.out.ret HS.out I3.out.lies
   have HF1 := hQ_ (And.intro f1 f2)
   have HF3 := hQ_ f3
   clear f1 f2 f3
   go_wp2_with fail
   first
    | exact bodyPost_ret (v := .tuple #[.bool true,.agg #[.slice h.a h.n h.c],.bool true]) (results_row3 rfl _ _ (w.heap.size + 1 + 1) 29 _ (0,0) _ rfl _ _ rfl rfl HF3.out Tryz.underlying29 rfl info_fs) rfl (DoE.full HF1.out.1 HF1.out.2 HA.out.1 HA.out.2)
    | exact bodyPost_ret (v := .tuple #[.bool true,.agg #[.slice h.a h.n h.c],.bool true]) (results_row3 rfl _ _ (w.heap.size + 1 + 1) 29 _ (0,0) _ rfl _ _ rfl rfl HF3.out.drew Tryz.underlying29 rfl info_fs) rfl (DoE.full (HF1.out.1.below HS.out ((Below.refl _ _).drew)) (HF1.out.2.below ((Below.refl _ _).drew)) HA.out.1 HA.out.2)
theorem do_ren (hS : Stays Rep) {w : World} {v : Value} {s : Vs} {S D : Nat → Prop} {h : Sh} {F F' : Fs} (path other : ByteArray) (ino : Int) {er : Int} {ps : List Wrt} {kk m : Nat} (hr : Rep w v s S D) {Q : Nat → Prop} (hf : FsA (fun b => ¬ S b ∧ Q b) w h F) (hQ : ∀ b,w.heap.size ≤ b → Q b) (hx : Mxs w S) (h21 : er ≠ 21)
 (hV : ∀ u S D,Rep u v s S D → Mxs u S → Calls Tryz.prog 29 #[v,.string path,.string other] u (Ans Rep v s er ps kk m S D u))
 (hM : ∀ T u,FsA T u h F → (∀ b,u.heap.size ≤ b → T b) → Calls Tryz.prog 52 #[.agg #[.slice h.a h.n h.c],.string path,.string other] u (AnsE T (er,F') u)) :
 Calls Tryz.prog 15 #[v,.agg #[.slice h.a h.n h.c],.agg #[.int .i64 6,.string path,.string other],.int .u32 ino] w (DoE Rep Q v s ps kk m S D h F F' w) := by
 obtain ⟨W,hW⟩ : ∃ W,((w.alloc (.cells #[.slice h.a h.n h.c] 29)).alloc (.cells #[.int .i64 6,.string path,.string other] 33)).alloc (.cells #[.slice none 0 0] 29) = W := ⟨_,rfl⟩
 obtain ⟨I0,W_0⟩ := InvD.start hS hr hf hx #[.int .i64 6,.string path,.string other] hW
 have HW := hQ_ hW
 have HS := hQ_ hS
 have HV := hQ_ hV
 have HM := hQ_ hM
 have HQ := hQ_ hQ
 have d21 : (er == 21) = false := by simpa using h21
 have V_0 := cZ0 I0.out.fs
 have V_1 := cC3 I0.out.op
 clear hr hf hx hV hM hW hS h21 hQ
 go_enter Tryz.func15,Tryz.ntmps15
 go_wp2_with fail
 rw [HW.out]
 go_wp2_with fail
 refine (HV.out _ _ _ I0.out.A.rep I0.out.mx).mono ?_
 intro e u1 ha
 rcases ha.split with ⟨s',S',D',rfl,hgo,hr1,st1,aft⟩ | ⟨s',S',D',rfl,hgo,hr1,st1,aft⟩
 ·have I1 := hQ_ (I0.out.view HS.out hr1 st1)
  have HA := hQ_ (And.intro hgo aft)
  have f1_0 := cZ0 I1.out.fs
  have f1_2 := cZ1 I1.out.op
  have f1_3 := cZ2 I1.out.op
  clear W_0 V_0 hgo hr1 st1 aft ha V_1
  go_wp2_with fail
  refine (HM.out _ _ I1.out.lies (fun b hb => ⟨fun q => by have h1 := HS.out.lt I1.out.A.rep b (HS.out.sub I1.out.A.rep b q); omega,fun q => by have h1 := I1.out.nx.lt; have h2 := q.2; omega,HQ.out b (Nat.le_trans I1.out.A.size hb)⟩)).mono ?_
  rintro e u2 ⟨h2,rfl,hf2,hb2⟩
  have I2 := hQ_ (I1.out.below HS.out hb2)
  have HF2 := hQ_ hf2
  have f2_0 := cZ0 I2.out.fs
  have d22 : (er == er) = true := by simp
  clear f1_0 f1_2 f1_3 hf2 hb2
  go_wp2_with ((with_reducible refine pick none ?_); refine store_blk rfl 29 _ _ rfl (w.heap.size + 1 + 1 + 1) #[.slice h2.a h2.n h2.c] rfl rfl 29 _ I2.out.nx info_fs rfl (by simp [Value.oneCell']) ?_; intro u3 hk3 hg3; obtain ⟨i3,l3⟩ := I2.out.next HS.out HF2.out hg3 hk3; have I3 := hQ_ i3; have L3 := hQ_ l3; have f3_0 : u3.cell? ⟨w.heap.size,0,none⟩ = some (.slice h.a h.n h.c) := I3.out.fs.cell 0; have f3_n : u3.cell? ⟨w.heap.size + 1 + 1 + 1,0,none⟩ = some (.slice h2.a h2.n h2.c) := I3.out.nx.cell 0; clear hk3 hg3 f2_0 i3 l3)
  have r1 := cZ0 I3.out.res
  have r2 : u3.frozen? ⟨w.heap.size + 1 + 1,0,none⟩ = false := I3.out.res.frozen 0
  go_region_law (fail)
  all_goals
   obtain ⟨f1,f2,f3⟩ := I3.out.ret HS.out L3.out
   have HF1 := hQ_ (And.intro f1 f2)
   have HF3 := hQ_ f3
   clear f1 f2 f3
   go_wp2_with fail
   first
    | exact bodyPost_ret (v := .tuple #[.bool true,.agg #[.slice h2.a h2.n h2.c],.bool false]) (results_row3 rfl _ _ (w.heap.size + 1 + 1) 29 _ (0,0) _ rfl _ _ rfl rfl HF3.out Tryz.underlying29 rfl info_fs) rfl (DoE.ok HF1.out.1 HF1.out.2 HA.out.1 HA.out.2)
    | exact bodyPost_ret (v := .tuple #[.bool true,.agg #[.slice h2.a h2.n h2.c],.bool false]) (results_row3 rfl _ _ (w.heap.size + 1 + 1) 29 _ (0,0) _ rfl _ _ rfl rfl HF3.out.drew Tryz.underlying29 rfl info_fs) rfl (DoE.ok (HF1.out.1.below HS.out ((Below.refl _ _).drew)) (HF1.out.2.below ((Below.refl _ _).drew)) HA.out.1 HA.out.2)
 ·have I1 := hQ_ (I0.out.view HS.out hr1 st1)
  have HA := hQ_ (And.intro hgo aft)
  have f1_0 := cZ0 I1.out.fs
  have f1_2 := cZ1 I1.out.op
  have f1_3 := cZ2 I1.out.op
  clear W_0 V_0 hgo hr1 st1 aft ha V_1
  go_wp2_with fail
  refine (HM.out _ _ I1.out.lies (fun b hb => ⟨fun q => by have h1 := HS.out.lt I1.out.A.rep b (HS.out.sub I1.out.A.rep b q); omega,fun q => by have h1 := I1.out.nx.lt; have h2 := q.2; omega,HQ.out b (Nat.le_trans I1.out.A.size hb)⟩)).mono ?_
  rintro e u2 ⟨h2,rfl,hf2,hb2⟩
  have I2 := hQ_ (I1.out.below HS.out hb2)
  have HF2 := hQ_ hf2
  have f2_0 := cZ0 I2.out.fs
  have d22 : (er == er) = true := by simp
  clear f1_0 f1_2 f1_3 hf2 hb2
  go_wp2_with ((with_reducible refine pick none ?_); refine store_blk rfl 29 _ _ rfl (w.heap.size + 1 + 1 + 1) #[.slice h2.a h2.n h2.c] rfl rfl 29 _ I2.out.nx info_fs rfl (by simp [Value.oneCell']) ?_; intro u3 hk3 hg3; obtain ⟨i3,l3⟩ := I2.out.next HS.out HF2.out hg3 hk3; have I3 := hQ_ i3; have L3 := hQ_ l3; have f3_0 : u3.cell? ⟨w.heap.size,0,none⟩ = some (.slice h.a h.n h.c) := I3.out.fs.cell 0; have f3_n : u3.cell? ⟨w.heap.size + 1 + 1 + 1,0,none⟩ = some (.slice h2.a h2.n h2.c) := I3.out.nx.cell 0; clear hk3 hg3 f2_0 i3 l3)
  have r1 := cZ0 I3.out.res
  have r2 : u3.frozen? ⟨w.heap.size + 1 + 1,0,none⟩ = false := I3.out.res.frozen 0
  go_region_law (fail)
  all_goals
   obtain ⟨f1,f2,f3⟩ := I3.out.ret HS.out I3.out.lies
   have HF1 := hQ_ (And.intro f1 f2)
   have HF3 := hQ_ f3
   clear f1 f2 f3
   go_wp2_with fail
   first
    | exact bodyPost_ret (v := .tuple #[.bool true,.agg #[.slice h.a h.n h.c],.bool true]) (results_row3 rfl _ _ (w.heap.size + 1 + 1) 29 _ (0,0) _ rfl _ _ rfl rfl HF3.out Tryz.underlying29 rfl info_fs) rfl (DoE.full HF1.out.1 HF1.out.2 HA.out.1 HA.out.2)
    | exact bodyPost_ret (v := .tuple #[.bool true,.agg #[.slice h.a h.n h.c],.bool true]) (results_row3 rfl _ _ (w.heap.size + 1 + 1) 29 _ (0,0) _ rfl _ _ rfl rfl HF3.out.drew Tryz.underlying29 rfl info_fs) rfl (DoE.full (HF1.out.1.below HS.out ((Below.refl _ _).drew)) (HF1.out.2.below ((Below.refl _ _).drew)) HA.out.1 HA.out.2)
end Go.Proofs.YtfalhnomhidkcaaGreatDoor.DirsL
namespace Go.Proofs.YtfalhnomhidkcaaGreatDoor.DirsLa
open Go.RowKit
open Byte KeysM TreeM ViewM NamesM NamesL NamesS Lst Ho Tx WalkF Chg TreeL ViewL WalkL Vat DirsM DirsV DirsR DirsRe DirsRi DirsK DirsKa DirsKc DirsKg DirsL
open Own hiding keeps
open ViewR (Sh)
variable {Rep : RepT}
def InvQ (Rep : RepT) (w0 : World) (S0 D0 Q : Nat → Prop) (cs : Array Value) (h : Sh) (v : Value) (s : Vs) (S D : Nat → Prop) (F : Fs) (A B : Option Addr) (n : Nat) (L : List ByteArray) (u : World) : Prop :=
 InvD Rep w0 S0 D0 Q cs h h u v s S D h F ∧ Sl txE u A n L ∧ Sl txE u B n L
section
variable {w0 u u' : World} {S0 D0 Q S D : Nat → Prop} {cs : Array Value} {h : Sh} {v : Value} {s : Vs} {F : Fs} {A B : Option Addr} {n : Nat} {L : List ByteArray}
theorem invq_below (hS : Hid (Stays Rep)) (J : Hid (InvQ Rep w0 S0 D0 Q cs h v s S D F A B n L u)) (hb : Below u.heap.size u u') : Hid (InvQ Rep w0 S0 D0 Q cs h v s S D F A B n L u') :=
 hQ_ ⟨J.out.1.below hS.out hb,J.out.2.1.below hb,J.out.2.2.below hb⟩
theorem invq_cells (J : Hid (InvQ Rep w0 S0 D0 Q cs h v s S D F A B n L u)) : u.cell? ⟨w0.heap.size,0,none⟩ = some (.slice h.a h.n h.c) ∧ u.cell? ⟨w0.heap.size + 1 + 1,0,none⟩ = some (.slice none 0 0) ∧ u.frozen? ⟨w0.heap.size + 1 + 1,0,none⟩ = false :=
 ⟨J.out.1.fs.cell 0,J.out.1.res.cell 0,J.out.1.res.frozen 0⟩
end
theorem do_lst (hS : Stays Rep) {w : World} {v : Value} {s : Vs} {S D : Nat → Prop} {h : Sh} {F : Fs} (path other : ByteArray) (ino : Int) {r : List ByteArray × Int} {kk m : Nat} (hr : Rep w v s S D) {Q : Nat → Prop} (hf : FsA (fun b => ¬ S b ∧ Q b) w h F) (hx : Mxs w S) (hlen : r.1.length ≤ 100000)
 (hV : ∀ u S D,Rep u v s S D → Mxs u S → Calls Tryz.prog 47 #[v,.string path] u (ListA Rep v s r kk m S D u))
 (hM : ∀ T u,FsA T u h F → Calls Tryz.prog 48 #[.agg #[.slice h.a h.n h.c],.string path] u (ListE r u)) :
 Calls Tryz.prog 15 #[v,.agg #[.slice h.a h.n h.c],.agg #[.int .i64 3,.string path,.string other],.int .u32 ino] w (DoE Rep Q v s [] kk m S D h F F w) := by
 obtain ⟨W,hW⟩ : ∃ W,((w.alloc (.cells #[.slice h.a h.n h.c] 29)).alloc (.cells #[.int .i64 3,.string path,.string other] 33)).alloc (.cells #[.slice none 0 0] 29) = W := ⟨_,rfl⟩
 obtain ⟨I0,W_0⟩ := InvD.start hS hr hf hx #[.int .i64 3,.string path,.string other] hW
 have HW := hQ_ hW
 have HS := hQ_ hS
 have HV := hQ_ hV
 have HM := hQ_ hM
 obtain ⟨rl,er⟩ := r
 unfold ListA at HV
 unfold ListE at HM
 dsimp only at HV HM hlen
 have HSM := hQ_ (fun (A B : Option Addr) (n c c2 : Nat) (u : World) (a : Sl txE u A n rl) (b : Sl txE u B n rl) (hn : n ≤ 100000) => same_calls A B n c c2 rl u a b hn)
 have V_0 := cZ0 I0.out.fs
 have V_1 := cC2 I0.out.op
 clear hr hf hx hV hM hW hS
 go_enter Tryz.func15,Tryz.ntmps15
 go_wp2_with fail
 rw [HW.out]
 go_wp2_with fail
 refine (HV.out _ _ _ I0.out.A.rep I0.out.mx).mono ?_
 rintro e u1 ⟨A1,n1,c1,s',S',D',rfl,hs1,hr1,st1,aft⟩
 have I1 := hQ_ (I0.out.view HS.out hr1 st1)
 have HA := hQ_ aft
 have L1 := hQ_ hs1
 have f1_0 := cZ0 I1.out.fs
 have f1_2 := cZ1 I1.out.op
 clear W_0 V_0 hr1 st1 aft hs1 V_1
 go_wp2_with fail
 refine (HM.out _ _ I1.out.lies).mono ?_
 rintro e u2 ⟨A2,n2,c2,rfl,so2,hb2⟩
 have hl1 := L1.out.1
 have hl2 := so2.sl.1
 obtain rfl : n1 = n2 := by rw [← hl1,← hl2]
 have J2 : Hid (InvQ Rep w S D Q #[.int .i64 3,.string path,.string other] h v s' S' D' F A1 A2 n1 rl u2.drew) := hQ_ ⟨(I1.out.below HS.out hb2).below HS.out ((Below.refl _ _).drew),(L1.out.below hb2).below ((Below.refl _ _).drew),so2.sl.below ((Below.refl _ _).drew)⟩
 have hn1 : n1 ≤ 100000 := by rw [← hl1]; exact hlen
 obtain ⟨c0,c1',c2'⟩ := invq_cells J2
 have d22 : (er == er) = true := by simp
 clear f1_0 f1_2 so2 hb2 hl1 hl2
 go_wp2_with fail
 go_region_law (first
  | (go_simp; go_at_call 49; refine (HSM.out _ _ _ _ _ _ J2.out.2.1 J2.out.2.2 hn1).mono ?_; rintro e w3 ⟨rfl,hb3⟩; have J3 := invq_below HS J2 hb3; obtain ⟨e0,e1,e2⟩ := invq_cells J3; clear hb3))
 all_goals
  obtain ⟨f1,f2,f3⟩ := J3.out.1.ret HS.out J3.out.1.lies
  have HF1 := hQ_ (And.intro f1 f2)
  have HF3 := hQ_ f3
  clear f1 f2 f3
  go_wp2_with fail
  first
   | exact bodyPost_ret (v := .tuple #[.bool true,.agg #[.slice h.a h.n h.c],.bool false]) (results_row3 rfl _ _ (w.heap.size + 1 + 1) 29 _ (0,0) _ rfl _ _ rfl rfl HF3.out Tryz.underlying29 rfl info_fs) rfl (DoE.ok HF1.out.1 HF1.out.2 rfl HA.out)
   | exact bodyPost_ret (v := .tuple #[.bool true,.agg #[.slice h.a h.n h.c],.bool false]) (results_row3 rfl _ _ (w.heap.size + 1 + 1) 29 _ (0,0) _ rfl _ _ rfl rfl HF3.out.drew Tryz.underlying29 rfl info_fs) rfl (DoE.ok (HF1.out.1.below HS.out ((Below.refl _ _).drew)) (HF1.out.2.below ((Below.refl _ _).drew)) rfl HA.out)
theorem do_else (hS : Stays Rep) {w : World} {v : Value} {s : Vs} {S D : Nat → Prop} {h : Sh} {F : Fs} (kind : Int) (path other : ByteArray) (ino : Int) (hr : Rep w v s S D) {Q : Nat → Prop} (hf : FsA (fun b => ¬ S b ∧ Q b) w h F) (hx : Mxs w S) (hk : kind < 0 ∨ 6 < kind) :
 Calls Tryz.prog 15 #[v,.agg #[.slice h.a h.n h.c],.agg #[.int .i64 kind,.string path,.string other],.int .u32 ino] w (DoE Rep Q v s [] 0 0 S D h F F w) := by
 obtain ⟨W,hW⟩ : ∃ W,((w.alloc (.cells #[.slice h.a h.n h.c] 29)).alloc (.cells #[.int .i64 kind,.string path,.string other] 33)).alloc (.cells #[.slice none 0 0] 29) = W := ⟨_,rfl⟩
 obtain ⟨I0,W_0⟩ := InvD.start hS hr hf hx #[.int .i64 kind,.string path,.string other] hW
 have HW := hQ_ hW
 have HS := hQ_ hS
 have d0 : (kind == 0) = false := by simp; omega
 have d1 : (kind == 1) = false := by simp; omega
 have d2 : (kind == 2) = false := by simp; omega
 have d3 : (kind == 3) = false := by simp; omega
 have d4 : (kind == 4) = false := by simp; omega
 have d5 : (kind == 5) = false := by simp; omega
 have d6 : (kind == 6) = false := by simp; omega
 have V_0 := cZ0 I0.out.fs
 have V_1 := cZ0 I0.out.op
 have V_n := cZ0 I0.out.nx
 have r1 := cZ0 I0.out.res
 have r2 : (W.alloc (.cells #[.slice h.a h.n h.c] 29)).frozen? ⟨w.heap.size + 1 + 1,0,none⟩ = false := I0.out.res.frozen 0
 clear hr hf hx hW hS hk
 go_enter Tryz.func15,Tryz.ntmps15
 go_wp2_with fail
 rw [HW.out]
 go_wp2_with fail
 go_region_law (fail)
 all_goals
  obtain ⟨f1,f2,f3⟩ := I0.out.ret HS.out I0.out.lies
  have HF1 := hQ_ (And.intro f1 f2)
  have HF3 := hQ_ f3
  clear f1 f2 f3
  go_wp2_with fail
  first
   | exact bodyPost_ret (v := .tuple #[.bool true,.agg #[.slice h.a h.n h.c],.bool false]) (results_row3 rfl _ _ (w.heap.size + 1 + 1) 29 _ (0,0) _ rfl _ _ rfl rfl HF3.out Tryz.underlying29 rfl info_fs) rfl (DoE.ok HF1.out.1 HF1.out.2 rfl (Aft.nil (Sm.refl s) (Nat.le_refl _) (Nat.le_refl _)))
   | exact bodyPost_ret (v := .tuple #[.bool true,.agg #[.slice h.a h.n h.c],.bool false]) (results_row3 rfl _ _ (w.heap.size + 1 + 1) 29 _ (0,0) _ rfl _ _ rfl rfl HF3.out.drew Tryz.underlying29 rfl info_fs) rfl (DoE.ok (HF1.out.1.below HS.out ((Below.refl _ _).drew)) (HF1.out.2.below ((Below.refl _ _).drew)) rfl (Aft.nil (Sm.refl s) (Nat.le_refl _) (Nat.le_refl _)))
end Go.Proofs.YtfalhnomhidkcaaGreatDoor.DirsLa