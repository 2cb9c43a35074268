import Derived.Lib.SlBytesConst
import Derived.Test.YtobbofdnhbgioaaGreatDoorSq
import Derived.Test.YtobbofdnhbgioaaGreatDoorOpsMakesMBX
import Derived.Test.YtobbofdnhbgioaaGreatDoorOpsL
import Derived.ChangeSlices
import Derived.Maps.Views
import Derived.Test.YtobbofdnhbgioaaGreatDoorProg
import Derived.OpenShut
import Derived.Deep.Slices
import Derived.ChangeArms
import Derived.WideShapes
import Derived.Test.YtobbofdnhbgioaaGreatDoorLst
import Derived.Test.YtobbofdnhbgioaaGreatDoorOpsR
import Derived.Test.YtobbofdnhbgioaaGreatDoorOpsMakesMBS
import Derived.Handed
import Derived.SizedLaws
set_option maxHeartbeats 16000000
set_option linter.unusedVariables false
set_option linter.unusedSimpArgs false
set_option maxRecDepth 100000
namespace Go.Proofs.YtobbofdnhbgioaaGreatDoor.OpsF
open Go.RowKit
open Byte KeysM TreeM ViewM NodeM NamesL WalkM WalkF DirsV Lst Chg TreeL ViewL WalkL WalkV Vat DirsK DirsKa DirsKc FileM FileV FileKd FileKe OpsR OpsD OpsE OpsI OpsJ OpsK OpsS OpsW OpsT OpsFm
open Own hiding lower
variable {Rep : RepT}
theorem get_mem {k : ByteArray} {L : List Pr} {p : Pr} (h : getL k L = some p) : p ∈ L := List.mem_of_find?_eq_some h
theorem v64_all {L : List Pr} (h : ∀ p ∈ L,p.value.size ≤ 64) (ino : Int) : V64 L ino := fun q q0 q1 => by
 cases hg : getL (kD ino q) L with
 | none => exact Nat.zero_le _
 | some p =>
   have := h p (get_mem hg)
   show (valL (some p.value)).length ≤ 64
   unfold valL
   simpa [txt] using this
theorem small1 : ∀ p ∈ s1.shown,p.value.size ≤ 64 := by decide +kernel
theorem small2 : ∀ p ∈ s2.shown,p.value.size ≤ 64 := by decide +kernel
theorem new_desk (B : Option Addr) (w : World) : Calls Tryz.prog 8 #[.pointer B] w fun e w' => e = .returned (.pointer (some ⟨w.heap.size,0,none⟩)) ∧ Dsk w' w.heap.size (.pointer B) h0 ∧ Below w.heap.size w w' := by
 have HB : Hid (Blk (w.alloc (.cells (#[.pointer B,.int .u32 0,.int .u32 0,.int .u32 0,.int .u32 0,.int .u32 0,.int .u32 0,.int .u32 0,.int .u32 0,.int .u32 0,.int .u32 0,.int .u32 0,.int .u32 0,.int .u32 0,.int .u32 0,.int .u32 0,.int .u32 0]) 70)) w.heap.size (#[.pointer B,.int .u32 0,.int .u32 0,.int .u32 0,.int .u32 0,.int .u32 0,.int .u32 0,.int .u32 0,.int .u32 0,.int .u32 0,.int .u32 0,.int .u32 0,.int .u32 0,.int .u32 0,.int .u32 0,.int .u32 0,.int .u32 0]) 70) := hQ_ (Blk.new_ _ _ _)
 have HL : Hid (Below w.heap.size w (w.alloc (.cells (#[.pointer B,.int .u32 0,.int .u32 0,.int .u32 0,.int .u32 0,.int .u32 0,.int .u32 0,.int .u32 0,.int .u32 0,.int .u32 0,.int .u32 0,.int .u32 0,.int .u32 0,.int .u32 0,.int .u32 0,.int .u32 0,.int .u32 0]) 70))) := hQ_ (bW_)
 go_enter Tryz.func8,Tryz.ntmps8
 go_wp2_with fail
 go_ret
 exact ⟨rfl,⟨HB.out,rfl,by decide⟩,HL.out⟩
theorem sl_bs {w : World} {A : Option Addr} {n : Nat} {L : List Int} (h : Sl u8E w A n L) (hb : ∀ x ∈ L,0 ≤ x ∧ x ≤ 255) : Bs w A n L := by
 refine ⟨h.1,hb,fun k hk => ?_⟩
 obtain ⟨x,b,o,hx,e,hlt,hc⟩ := h.get k hk
 refine ⟨b,o,e,hlt,?_⟩
 have h0 := hc 0 _ rfl
 rw [List.getD_eq_getElem?_getD,hx]
 have e2 : o + k * u8E.size + 0 = o + k := by show o + k * 1 + 0 = o + k; omega
 rw [e2] at h0
 exact h0
theorem conv_so {w : World} {base m : Nat} {u : Value} {L : List Int} (h : So u8E 5 w base u m L) (hb : ∀ x ∈ L,0 ≤ x ∧ x ≤ 255) : (convert 39 9 u).run Tryz.prog w = .ok (.string (str L)) w := by
 obtain ⟨A,c,rfl⟩ : ∃ A c,u = .slice A m c := by
  rcases h.form with ⟨e1,e2⟩ | ⟨g,cap,e1,_⟩
  ·exact ⟨none,0,by rw [e1,e2]⟩
  ·exact ⟨_,cap,e1⟩
 have q := sl_bs h.sl hb
 exact q.str_ (P := Tryz.prog) 39 9 Tryz.underlying39 Tryz.underlying5 Tryz.underlying9
theorem lim_sm {s : Vs} (h1 : s.base = []) (h2 : s.rd.length ≤ 500) (h3 : s.rg.length ≤ 50) : Lim s := ⟨by rw [h1]; exact Nat.zero_le _,by omega,by omega⟩
section
variable {w w' : World} {g : Nat} {v : Value} {hs : List Int} {s t : Vs} {S D : Nat → Prop} {e : Ending}
theorem step_n {er N : Int} {ps : List Wrt} {k m : Nat} (h : DoE Rep (QN hs s er N ps k m) g v S D w e w') (hsm : Sm s t) (hg : (goW t ps).2 = true) (he : er = 0) :
 ∃ s' S' D',e = .returned (.agg #[.int .i64 0,.int .i64 N,.slice none 0 0,.slice none 0 0,.int .u8 0,.int .u32 0,.int .u32 0,.int .u32 0]) ∧ Dst Rep w' g v hs s' S' D' ∧ Dstp S D S' D' g w w' ∧ Sm s' (goW t ps).1 ∧ s'.rd.length ≤ s.rd.length + k ∧ s'.rg.length ≤ s.rg.length + m := by
 obtain ⟨r,hs',s',S',D',rfl,hd,st,rfl,J,hJ,rfl,ha⟩ := h
 have h1 := goW_sm ps hsm
 rw [h1.2,if_pos hg,he] at hJ
 subst hJ
 exact ⟨s',S',D',rfl,hd,st,ha.sm.trans h1.1,ha.rd,ha.rg⟩
theorem step_o {path : ByteArray} {x : Int × Int × List Int} (h : DoE Rep (QO s path x) g v S D w e w') (hsm : Sm s t) :
 ∃ s' S' D',e = .returned (.agg #[.int .i64 x.1,.int .i64 x.2.1,.slice none 0 0,.slice none 0 0,.int .u8 0,.int .u32 0,.int .u32 0,.int .u32 0]) ∧ Dst Rep w' g v x.2.2 s' S' D' ∧ Dstp S D S' D' g w w' ∧ Sm s' t ∧ s'.rd.length ≤ s.rd.length + 40 ∧ s'.rg.length ≤ s.rg.length := by
 obtain ⟨r,hs',s',S',D',rfl,hd,st,rfl,rfl,hf⟩ := h
 exact ⟨s',S',D',rfl,hd,st,(Sm.of_find hf).trans hsm,hf.len,by rw [hf.rg]; exact Nat.le_refl _⟩
end
theorem mxs_step {w w' : World} {g : Nat} {S D S' D' : Nat → Prop} (h : Mxs w S) (hg : 0 ≠ g) (st : Dstp S D S' D' g w w') : Mxs w' S' := by
 refine ⟨?_,fun hs => ?_⟩
 ·obtain ⟨m,hm⟩ := h.1
  exact ⟨m,st.chg.cell hm (fun e => e.elim h.2 (fun e => hg e))⟩
 ·rcases st.own _ hs with h1 | h1
  ·exact h.2 h1
  ·have := h.lt
   omega
theorem bel_dst {w0 w w' : World} {g : Nat} {S D S' D' : Nat → Prop} (hb : Below w0.heap.size w0 w) (lo : ∀ b,S b → w0.heap.size ≤ b) (hg : w0.heap.size ≤ g) (st : Dstp S D S' D' g w w') : Below w0.heap.size w0 w' ∧ ∀ b,S' b → w0.heap.size ≤ b :=
 ⟨below_chg hb st.chg (fun b h => h.elim (lo b) (fun e => by have e' : b = g := e; omega)) (Nat.le_refl _),new_own lo hb.size st.own⟩
theorem b120 : ∀ x ∈ ([120,121] : List Int),0 ≤ x ∧ x ≤ 255 := by decide
theorem fixed_calls (hW : Wk Rep) (hLk : LookOk Rep) (hSt : SetOk Rep) (hN : NewB Rep) (hPt : ∀ (w : World) (v : Value) (s : Vs) (S D : Nat → Prop),Rep w v s S D → ∃ A,v = .pointer A) (w : World) (hmx : Mx w) : Calls Tryz.prog 16 #[] w fun e w' => e = .returned (.bool true) ∧ Below w.heap.size w w' := by
 have HMX := hQ_ hmx
 have HN := hQ_ hN
 have HW := hQ_ hW
 have HLK := hQ_ hLk
 have HST := hQ_ hSt
 have HPT := hQ_ hPt
 clear hN hmx hW hLk hSt hPt
 go_enter Tryz.func16,Tryz.ntmps16
 go_wp2_with fail
 refine (TreeG.new_calls _).mono ?_
 rintro e w1 ⟨v0,hh0,rfl,hr0,hb1⟩
 have HB1 := hQ_ hb1
 have HR0 := hQ_ hr0
 clear hb1 hr0
 go_wp2_with fail
 refine (HN.out HR0.out (Nat.zero_le _) (fun p hp => by cases hp)).mono ?_
 rintro e w2 ⟨v,S,D,rfl,hr2,hS2,hD2,hb2⟩
 obtain ⟨A,rfl⟩ := HPT.out _ _ _ _ _ hr2
 have HB2 := hQ_ (Own.keeps HB1.out hb2)
 have hS0 : ∀ b,S b → w.heap.size ≤ b := fun b hb => Nat.le_trans HB1.out.size (hS2 b hb)
 have HR2 := hQ_ hr2
 have HS2 := hQ_ hS0
 clear hb2 hr2 hS2 hD2 hS0
 go_wp2_with fail
 refine (new_desk A _).mono ?_
 rintro e w3 ⟨rfl,hd3,hb3⟩
 obtain ⟨g,hg⟩ : ∃ g,w2.heap.size = g := ⟨_,rfl⟩
 rw [hg] at hd3 ⊢
 have hgw : w.heap.size ≤ g := by have := HB2.out.size; omega
 have HB3 := hQ_ (Own.keeps HB2.out hb3)
 have D3 : Dst Rep w3 g (.pointer A) h0 s0 S D := ⟨HW.out.stays.below HR2.out hb3,hd3,fun e => by have := HW.out.stays.lt HR2.out g e; omega⟩
 have hmg : 0 ≠ g := by
  obtain ⟨m,hm⟩ := HMX.out
  have h1 := World.block_lt_of_cell? w ⟨0,0,none⟩ hm
  dsimp only at h1
  omega
 have M3 : Mxs w3 S := ⟨HMX.out.below HB3.out,fun hs => by
  obtain ⟨m,hm⟩ := HMX.out
  have h1 := World.block_lt_of_cell? w ⟨0,0,none⟩ hm
  have h2 := HS2.out _ hs
  dsimp only at h1
  omega⟩
 have c1 := do_create HW.out ⟨4,pa,⟨#[]⟩,0,0,0,none,0,0⟩ 2 rfl D3 (lim_sm (s := s0) rfl (Nat.zero_le _) (Nat.zero_le _)) (Nat.zero_le _) (Nat.zero_le _) M3 (by decide) (by decide) (by decide)
 dsimp only [Op20.val,Op20.cells,pa] at c1
 have C1 := hQ_ c1
 have MG := hQ_ hmg
 have GW := hQ_ hgw
 have HM3 := hQ_ M3
 have FA := field_0 (.int .i64 0) (.int .i64 0) (.slice none 0 0) (.slice none 0 0) (.int .u8 0) (.int .u32 0) (.int .u32 0) (.int .u32 0)
 have FB := field_1 (.int .i64 0) (.int .i64 0) (.slice none 0 0) (.slice none 0 0) (.int .u8 0) (.int .u32 0) (.int .u32 0) (.int .u32 0)
 have FC := field_1 (.int .i64 0) (.int .i64 2) (.slice none 0 0) (.slice none 0 0) (.int .u8 0) (.int .u32 0) (.int .u32 0) (.int .u32 0)
 clear hg hd3 hb3 D3 hmg hgw M3 c1
 go_wp2_with fail
 refine C1.out.mono ?_
 intro e w4 h4
 obtain ⟨t4,S4,D4,rfl,d4,st4,sm4,rd4,rg4⟩ := step_n h4 (Sm.refl s0) f1.2 f1.1
 obtain ⟨B4,L4⟩ := bel_dst HB3.out HS2.out GW.out st4
 have M4 := mxs_step HM3.out MG.out st4
 have sh4 : t4.shown = s1.shown := sm4.shown
 have hb4 : t4.base = [] := by rw [sm4.base,goW_base]; rfl
 have r4 : t4.rd.length ≤ 41 := by simpa [s0] using rd4
 have g4 : t4.rg.length ≤ 0 := by simpa [s0] using rg4
 have c2 := do_open HW.out ⟨6,pa,⟨#[]⟩,0,0,0,none,0,0⟩ 0 rfl d4 (lim_sm hb4 (by omega) (by omega)) (by omega) (by omega) M4 (by decide)
 dsimp only [Op20.val,Op20.cells] at c2
 rw [sh4,f2] at c2
 dsimp only [pa] at c2
 have C2 := hQ_ c2
 have HB4 := hQ_ (And.intro B4 L4)
 have HM4 := hQ_ M4
 have SM4 : Hid (Sm t4 s1) := hQ_ sm4
 have HD4 := hQ_ (And.intro hb4 (And.intro r4 g4))
 clear h4 d4 st4 sm4 rd4 rg4 B4 L4 M4 sh4 hb4 r4 g4 c2 C1
 go_wp2_with fail
 refine C2.out.mono ?_
 intro e w5 h5
 obtain ⟨t5,S5,D5,rfl,d5,st5,sm5,rd5,rg5⟩ := step_o h5 SM4.out
 dsimp only
 obtain ⟨B5,L5⟩ := bel_dst HB4.out.1 HB4.out.2 GW.out st5
 have M5 := mxs_step HM4.out MG.out st5
 have sh5 : t5.shown = s1.shown := sm5.shown
 have hb5 : t5.base = [] := by rw [sm5.base,← SM4.out.base]; exact HD4.out.1
 have hr4 := HD4.out.2
 have hba := bN_ w5 (.cells #[.int .u8 120,.int .u8 121] 5 (2,3))
 have hx : Bs (w5.alloc (.cells #[.int .u8 120,.int .u8 121] 5 (2,3))) (some ⟨w5.heap.size,0,none⟩) 2 [120,121] := Bs.new_ w5 5 (2,3) [120,121] b120
 have c3 := do_write HW.out HLK.out HST.out ⟨9,⟨#[]⟩,⟨#[]⟩,0,0,0,some ⟨w5.heap.size,0,none⟩,2,2⟩ 0 rfl (d5.below HW.out.stays hba) (lim_sm hb5 (by omega) (by omega)) (by omega) (show (-9223372036854775808 : Int) ≤ 0 by decide) (show (0 : Int) ≤ 9223372036854775807 by decide) hx (Nat.le_refl 2) (show 2 ≤ 9223372036854775807 by decide) (fun _ b of e => by
  injection e with e
  injection e with e _
  subst e
  exact ⟨fun q => Nat.lt_irrefl _ (HW.out.stays.lt d5.rep _ (HW.out.stays.sub d5.rep _ q)),by simp⟩) (v64_all (by rw [sh5]; exact small1) _)
 have e3 : wrtD t5.shown h1 0 0 [120,121] = wriV s1.shown 2 0 [120,121] := by rw [sh5]; unfold wrtD; rw [f3]; rfl
 dsimp only [Op20.val,Op20.cells] at c3
 rw [e3] at c3
 have C3 := hQ_ c3
 have cvS : (convert 39 39 (.slice (some ⟨w5.heap.size,0,none⟩) 2 2)).run Tryz.prog (w5.alloc (.cells #[.int .u8 120,.int .u8 121] 5)) = .ok (.slice (some ⟨w5.heap.size,0,none⟩) 2 2) (w5.alloc (.cells #[.int .u8 120,.int .u8 121] 5 (2,3))) :=
  Lib.run_convert_bytes_const (P := Tryz.prog) w5 39 5 #[.int .u8 120,.int .u8 121] 2 2 Tryz.underlying39 Tryz.underlying5
 have HB5 := hQ_ (And.intro (Own.keeps B5 hba) L5)
 have SM5 : Hid (Sm t5 s1) := hQ_ sm5
 have HD5 := hQ_ (And.intro hb5 (show t5.rd.length ≤ 100 ∧ t5.rg.length ≤ 10 by omega))
 clear h5 d5 st5 sm5 rd5 rg5 B5 L5 M5 sh5 hb5 hr4 hba hx c3 e3 C2
 go_wp2_with fail
 refine C3.out.mono ?_
 intro e w6 h6
 obtain ⟨t6,S6,D6,rfl,d6,st6,sm6,rd6,rg6⟩ := step_n h6 SM5.out f4.2 f4.1
 obtain ⟨B6,L6⟩ := bel_dst HB5.out.1 HB5.out.2 GW.out st6
 have sh6 : t6.shown = s2.shown := sm6.shown
 have hb6 : t6.base = [] := by rw [sm6.base,goW_base,← SM5.out.base]; exact HD5.out.1
 have hr5 := HD5.out.2
 have c4 := do_read HW.out HLK.out ⟨8,⟨#[]⟩,⟨#[]⟩,0,0,9,none,0,0⟩ 0 rfl d6 (lim_sm hb6 (by omega) (by omega)) (by omega) (by decide) (by decide) (by decide) (by decide) (v64_all (by rw [sh6]; exact small2) _)
 dsimp only [Op20.val,Op20.cells] at c4
 have C4 := hQ_ c4
 have HB6 := hQ_ (And.intro B6 L6)
 have SH6 := hQ_ sh6
 clear h6 d6 st6 sm6 rd6 rg6 B6 L6 sh6 hb6 hr5 c4 C3 cvS
 go_wp2_with fail
 refine C4.out.mono ?_
 rintro e w7 ⟨r,hs7,t7,S7,D7,rfl,d7,st7,rfl,hq⟩
 have HB7 := hQ_ (bel_dst HB6.out.1 HB6.out.2 GW.out st7).1
 obtain ⟨a,m,c,rfl,hso⟩ : ∃ (a : Option Addr) (m c : Nat),r = ⟨0,(m : Int),a,m,c,none,0,0,0,0,0,0⟩ ∧ So u8E 5 w7 w6.heap.size (.slice a m c) m [120,121] := by
  have e3 : (inoD h1 0).1 = 2 := by rw [f3]
  rcases hq with ⟨_,_,a,m,c,h1,h2⟩ | ⟨h1,_⟩
  ·rw [SH6.out,e3,f5] at h1 h2
   exact ⟨a,m,c,h1,h2⟩
  ·exact absurd (by rw [f3]) h1
 have cv := conv_so hso b120
 have e5 : str [120,121] = (⟨#[120,121]⟩ : ByteArray) := rfl
 rw [e5] at cv
 have FD := field_2 (.int .i64 0) (.int .i64 (m : Int)) (.slice a m c) (.slice none 0 0) (.int .u8 0) (.int .u32 0) (.int .u32 0) (.int .u32 0)
 clear hq hso d7 st7 e5
 dsimp only [Res20.val,Res20.cells]
 go_wp2_with fail
 go_ret
 exact ⟨rfl,HB7.out⟩
theorem form_n (w : World) (v : Value) (s : Vs) (S D : Nat → Prop) (h : WalkK.VRep w v s S D) : ∃ A,v = .pointer A := by
 obtain ⟨⟨g,_,_,_,_,_,rfl,_⟩,_⟩ := h
 exact ⟨_,rfl⟩
theorem look_n : LookOk WalkK.VRep := look_b ViewK.look_ok
theorem newb : NewB WalkK.VRep := new_b ViewK.new_ok
theorem set_n : SetOk WalkK.VRep := set_b ViewK.set_ok
theorem fix_ok : OpsL.FixOk := fun w hmx => fixed_calls DirsK.wk look_n set_n newb form_n w hmx
end Go.Proofs.YtobbofdnhbgioaaGreatDoor.OpsF
namespace Go.Proofs.YtobbofdnhbgioaaGreatDoor.OpsX
open Go.RowKit Go.ChangeShapes Go.WideShapes Go.Deep Go.Maps
open Lst Byte OpsR
structure Op20G (w : World) (o : Op20) : Prop where
 k : 0 ≤ o.kind ∧ o.kind ≤ 255
 path : o.path.size ≤ maxLen
 other : o.other.size ≤ maxLen
 hn : -9223372036854775808 ≤ o.hn ∧ o.hn ≤ 9223372036854775807
 frm : -9223372036854775808 ≤ o.frm ∧ o.frm ≤ 9223372036854775807
 n : -9223372036854775808 ≤ o.n ∧ o.n ≤ 9223372036854775807
 fit : o.dn ≤ o.dc ∧ o.dc ≤ maxLen
 nil : o.da = none → o.dc = 0
 bs : ∃ bs,Bs w o.da o.dn bs
theorem seven {α : Type} {l : List α} (h : l.length = 7) : ∃ a b c d e f g,l = [a,b,c,d,e,f,g] := by
 match l,h with
 | [a,b,c,d,e,f,g],_ => exact ⟨a,b,c,d,e,f,g,rfl⟩
section
variable {H : Type} {enc : TypeId × Value → H} {w : World} {base fuel : Nat}
theorem int_of {cs : List Value} {x : DataW H × List MemPlace} (h : DataW.trod enc Tryz.prog w base (fun _ => true) true fuel 3 cs = some x) : ∃ n,cs = [.int .i64 n] ∧ -9223372036854775808 ≤ n ∧ n ≤ 9223372036854775807 := by
 obtain ⟨n,h1,_,h2⟩ := DataW.trod_int Tryz.underlying3 h
 have := bounds_i64 h2
 exact ⟨n,h1,this.1,this.2⟩
theorem byte_of {cs : List Value} {x : DataW H × List MemPlace} (h : DataW.trod enc Tryz.prog w base (fun _ => true) true fuel 5 cs = some x) : ∃ n,cs = [.int .u8 n] ∧ 0 ≤ n ∧ n ≤ 255 := by
 obtain ⟨n,h1,_,h2⟩ := DataW.trod_int Tryz.underlying5 h
 have := bounds_u8 h2
 exact ⟨n,h1,this.1,this.2⟩
theorem bytes_of {cs : List Value} {x : DataW H × List MemPlace} (h : DataW.trod enc Tryz.prog w base (fun _ => true) true fuel 39 cs = some x) : ∃ A len cap,cs = [.slice A len cap] ∧ (∃ bs,Bs w A len bs) ∧ (A = none → cap = 0) ∧ len ≤ cap ∧ cap ≤ maxLen := by
 rcases open_ints Tryz.underlying39 Tryz.underlying5 (by kernel_rfl) h with ⟨hcs,_⟩ | ⟨a,l,c,zs,hcs,_,hl,hm,hz,hx,hcell,hwz⟩
 ·exact ⟨none,0,0,hcs,⟨[],Bs.nil_ _ _⟩,fun _ => rfl,Nat.le_refl _,Nat.zero_le _⟩
 ·have := Bs.of_row (w := w) (a := some a) (len := l) (cap := c) (zs := zs) (.inr ⟨a,rfl,hl,hm,by simpa using hz,hcell,hwz⟩)
  exact ⟨some a,l,c,hcs,⟨_,this.1⟩,this.2.2,hl,hm⟩
theorem str_of {cs : List Value} {x : DataW H × List MemPlace} (h : DataW.trod enc Tryz.prog w base (fun _ => true) true fuel 9 cs = some x) : ∃ s : ByteArray,cs = [.string s] ∧ s.size ≤ maxLen := by
 obtain ⟨s,h1,_,h2⟩ := DataW.trod_string Tryz.underlying9 h
 exact ⟨s,h1,by simpa using h2⟩
theorem cells_of {cs : List Value} {x : DataW H × List MemPlace} (h : DataW.trod enc Tryz.prog w base (fun _ => true) true fuel 41 cs = some x) : ∃ o : Op20,cs = o.cells.toList ∧ Op20G w o := by
 obtain ⟨xs,n,_,hxe,hlen,hxl,hg⟩ := DataW.trod_struct Tryz.underlying41 h
 have h7 : Tryz.prog.cellsOf 41 = 7 := by kernel_rfl
 have hi : Tryz.prog.cellsOf 3 = 1 := by kernel_rfl
 have hu : Tryz.prog.cellsOf 5 = 1 := by kernel_rfl
 have ht : Tryz.prog.cellsOf 9 = 1 := by kernel_rfl
 have hs : Tryz.prog.cellsOf 39 = 1 := by kernel_rfl
 rw [h7] at hlen
 have hxl : xs.length = 7 := hxl
 obtain ⟨c0,c1,c2,c3,c4,c5,c6,rfl⟩ := seven hlen
 obtain ⟨x0,x1,x2,x3,x4,x5,x6,rfl⟩ := seven hxl
 have g0 : DataW.trod enc Tryz.prog w base (fun _ => true) true n 5 (([c0,c1,c2,c3,c4,c5,c6].drop 0).take (Tryz.prog.cellsOf 5)) = some x0 := hg 0 _ rfl
 have g1 : DataW.trod enc Tryz.prog w base (fun _ => true) true n 9 (([c0,c1,c2,c3,c4,c5,c6].drop 1).take (Tryz.prog.cellsOf 9)) = some x1 := hg 1 _ rfl
 have g2 : DataW.trod enc Tryz.prog w base (fun _ => true) true n 9 (([c0,c1,c2,c3,c4,c5,c6].drop 2).take (Tryz.prog.cellsOf 9)) = some x2 := hg 2 _ rfl
 have g3 : DataW.trod enc Tryz.prog w base (fun _ => true) true n 3 (([c0,c1,c2,c3,c4,c5,c6].drop 3).take (Tryz.prog.cellsOf 3)) = some x3 := hg 3 _ rfl
 have g4 : DataW.trod enc Tryz.prog w base (fun _ => true) true n 3 (([c0,c1,c2,c3,c4,c5,c6].drop 4).take (Tryz.prog.cellsOf 3)) = some x4 := hg 4 _ rfl
 have g5 : DataW.trod enc Tryz.prog w base (fun _ => true) true n 3 (([c0,c1,c2,c3,c4,c5,c6].drop 5).take (Tryz.prog.cellsOf 3)) = some x5 := hg 5 _ rfl
 have g6 : DataW.trod enc Tryz.prog w base (fun _ => true) true n 39 (([c0,c1,c2,c3,c4,c5,c6].drop 6).take (Tryz.prog.cellsOf 39)) = some x6 := hg 6 _ rfl
 rw [hu] at g0
 rw [ht] at g1 g2
 rw [hi] at g3 g4 g5
 rw [hs] at g6
 obtain ⟨n0,e0,k0⟩ := byte_of g0
 obtain ⟨s1,e1,k1⟩ := str_of g1
 obtain ⟨s2,e2,k2⟩ := str_of g2
 obtain ⟨n3,e3,k3⟩ := int_of g3
 obtain ⟨n4,e4,k4⟩ := int_of g4
 obtain ⟨n5,e5,k5⟩ := int_of g5
 obtain ⟨A,l,c,e6,k6,k7,k8⟩ := bytes_of g6
 simp at e0 e1 e2 e3 e4 e5 e6
 subst e0 e1 e2 e3 e4 e5 e6
 exact ⟨⟨n0,s1,s2,n3,n4,n5,A,l,c⟩,rfl,⟨k0,k1,k2,k3,k4,k5,k8,k7,k6⟩⟩
theorem op_of {base' : Nat} {r : Reach} {v : Value} {d : DataW H} {ps : List MemPlace}
 (hv : Value.okWide Tryz.prog w r base 41 v) (h : DataW.Trod enc Tryz.prog w base' (fun _ => true) true 41 v d ps) : ∃ (kind : Int) (path other : ByteArray) (hn frm n : Int) (da : Option Addr) (dn dc : Nat),
 v = .agg #[.int .u8 kind,.string path,.string other,.int .i64 hn,.int .i64 frm,.int .i64 n,.slice da dn dc] ∧ Op20G w ⟨kind,path,other,hn,frm,n,da,dn,dc⟩ := by
 obtain ⟨cs,rfl,hs⟩ := okWide_struct Tryz.underlying41 hv
 obtain ⟨fuel,hf⟩ := h
 obtain ⟨l⟩ := cs
 obtain ⟨⟨kind,path,other,hn,frm,n,da,dn,dc⟩,e,hg⟩ := cells_of (cs := l) (by simpa [Value.cells] using hf)
 subst e
 exact ⟨kind,path,other,hn,frm,n,da,dn,dc,rfl,hg⟩
end
end Go.Proofs.YtobbofdnhbgioaaGreatDoor.OpsX
namespace Go.Proofs.YtobbofdnhbgioaaGreatDoor.NamesW
open Go.RowKit
open Byte Lst Tx NamesL NamesK
theorem mx_of {w : World} (h : w.ShapedOpen Tryz.prog) : Mx w := NamesY.splitLay.s1_3 w h
end Go.Proofs.YtobbofdnhbgioaaGreatDoor.NamesW
namespace Go.Proofs.YtobbofdnhbgioaaGreatDoor.Shap
open Go
theorem returns_shaped {H : Type} {enc : TypeId × Value → H} {a : Assume} {C : Checked} {os : Os} {f : FuncId} {fn : Func} {s : ChangeSpec} {conds : List PathCond} {apart fresh handsOn again : Bool} {X : World → Array Value → Prop}
 (keepX : ∀ (v v' : World) (xs : Array Value),v.heap = v'.heap → X v xs → X v' xs) (own : ownKnob C.prog.godebug = none) (started : os.Started) (noInit : C.prog.inits.idxOf? f = none) (hfn : C.prog.funcs[f]? = some fn)
 (wit : ∃ (v : World) (tape : Tape) (i : Input),v.os = os ∧ (v.forCall tape i).Shaped C.prog ∧ i.vars = [] ∧ Input.okWide C.prog (v.forCall tape i) .any v.heap.size f i ∧ ((s.pre enc C.prog fn conds apart (v.forCall tape i).memory i.args ∧ X (v.forCall tape i).memory i.args) ∧ sizedMet enc C.prog fn (OpenSpec.ofChange s) apart (v.forCall tape i).memory i.args) ∧ a.holds C.prog (lone (Frame.enter C.prog f i.args .normal) [] (v.forCall tape i)))
 (walked : ∀ (W : World) (base : Nat) (xs : Array Value) (ds gs : List (DataW H)) (before : List MemPlace),(∀ (j : Nat) t v,fn.params[j]? = some t → xs[j]? = some v → Value.okWide C.prog W .any base t v) → DataW.Whole enc C.prog fn.params.toList s.vars apart W xs.toList ds gs before → conds.all (PathCond.test C.prog ⟨fn.params.toList,ds,s.plain.varTypes C.prog,gs⟩) = true →
   (DataW.weightsEach C.prog (fn.params.toList ++ s.plain.varTypes C.prog) (ds ++ gs)).all (· ≤ reachBytes) = true → X W xs → W.ShapedOpen C.prog → Calls C.prog f xs W fun e W' => ∃ v,e = .returned v ∧ s.post enc C.prog fn apart fresh handsOn again W xs v W') :
 ReturnsInHanded a C os f .any (fun v xs => (s.pre enc C.prog fn conds apart v xs ∧ X v xs) ∧ sizedMet enc C.prog fn (OpenSpec.ofChange s) apart v xs) (s.post enc C.prog fn apart fresh handsOn again) := by
 refine returnsInHanded_of_calls own started noInit wit ?_
 intro v tape i _ shape _ ok pre _
 obtain ⟨_,_,_,fn',hfn',_,_,_,_,hval⟩ := ok
 obtain rfl : fn' = fn := Option.some.inj (hfn'.symm.trans hfn)
 obtain ⟨⟨⟨ds,gs,before,hw,hc⟩,hx⟩,hz⟩ := pre
 have whole := DataW.Whole.of_heap (w' := v.forCall tape i) (by rfl) hw
 refine (walked (v.forCall tape i) v.heap.size i.args ds gs before hval whole hc (hz.weights hw) (keepX _ _ _ (by rfl) hx) shape).mono fun e W' h => ?_
 obtain ⟨x,rfl,hp⟩ := h
 exact ChangeSpec.post_blind hp
end Go.Proofs.YtobbofdnhbgioaaGreatDoor.Shap