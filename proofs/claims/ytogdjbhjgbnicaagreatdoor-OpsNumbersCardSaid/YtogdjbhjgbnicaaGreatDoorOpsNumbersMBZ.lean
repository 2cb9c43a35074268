import Derived.Test.YtogdjbhjgbnicaaGreatDoorOpsNumbersMAG
import Derived.Test.YtogdjbhjgbnicaaGreatDoorOpsNumbersMBQ
import Derived.Test.YtogdjbhjgbnicaaGreatDoorHo
import Derived.Lib.SlBytesConst
import Derived.Test.YtogdjbhjgbnicaaGreatDoorSq
import Derived.Test.YtogdjbhjgbnicaaGreatDoorOpsNumbersMBW
import Derived.Test.YtogdjbhjgbnicaaGreatDoorOpsNumbersMBY
import Derived.LaidEqlPtr
import Derived.Test.YtogdjbhjgbnicaaGreatDoorNest
import Derived.Test.YtogdjbhjgbnicaaGreatDoorOpsNumbersMBV
import Derived.Test.YtogdjbhjgbnicaaGreatDoorOpsNumbersMBT
import Derived.Handed
import Derived.SizedLaws
import Derived.ChangeShapes
import Derived.WideShapes
import Derived.OpenShut
import Derived.Below
set_option linter.unusedVariables false
set_option linter.unusedSimpArgs false
namespace Go.Proofs.YtogdjbhjgbnicaaGreatDoor.OpsL
open Go.RowKit
open Byte Lst Ho NamesL OpsR
open Own hiding keeps
def FixOk : Prop := ∀ w : World,Mx w → Calls Tryz.prog 16 #[] w fun e w' => e = .returned (.bool true) ∧ Below w.heap.size w w'
end Go.Proofs.YtogdjbhjgbnicaaGreatDoor.OpsL
set_option maxHeartbeats 16000000
set_option maxRecDepth 100000
namespace Go.Proofs.YtogdjbhjgbnicaaGreatDoor.OpsF
open Go.RowKit
open Byte KeysM TreeM ViewM NodeM NamesL WalkM WalkF DirsV Lst Chg TreeL ViewL WalkL WalkV Vat DirsK DirsKa DirsKc FileM FileV FileKd FileKe OpsR OpsD OpsE OpsI OpsJ OpsK OpsS OpsW OpsT OpsFm
open Own hiding lower
variable {Rep : RepT}
theorem get_mem {k : ByteArray} {L : List Pr} {p : Pr} (h : getL k L = some p) : p ∈ L := List.mem_of_find?_eq_some h
theorem v64_all {L : List Pr} (h : ∀ p ∈ L,p.value.size ≤ 64) (ino : Int) : V64 L ino := fun q q0 q1 => by
 cases hg : getL (kD ino q) L with
 | none => exact Nat.zero_le _
 | some p =>
   have := h p (get_mem hg)
   show (valL (some p.value)).length ≤ 64
   unfold valL
   simpa [txt] using this
theorem small1 : ∀ p ∈ s1.shown,p.value.size ≤ 64 := by decide +kernel
theorem small2 : ∀ p ∈ s2.shown,p.value.size ≤ 64 := by decide +kernel
theorem new_desk (B : Option Addr) (w : World) : Calls Tryz.prog 8 #[.pointer B] w fun e w' => e = .returned (.pointer (some ⟨w.heap.size,0,none⟩)) ∧ Dsk w' w.heap.size (.pointer B) h0 ∧ Below w.heap.size w w' := by
 have HB : Hid (Blk (w.alloc (.cells (#[.pointer B,.int .u32 0,.int .u32 0,.int .u32 0,.int .u32 0,.int .u32 0,.int .u32 0,.int .u32 0,.int .u32 0,.int .u32 0,.int .u32 0,.int .u32 0,.int .u32 0,.int .u32 0,.int .u32 0,.int .u32 0,.int .u32 0]) 70)) w.heap.size (#[.pointer B,.int .u32 0,.int .u32 0,.int .u32 0,.int .u32 0,.int .u32 0,.int .u32 0,.int .u32 0,.int .u32 0,.int .u32 0,.int .u32 0,.int .u32 0,.int .u32 0,.int .u32 0,.int .u32 0,.int .u32 0,.int .u32 0]) 70) := hQ_ (Blk.new_ _ _ _)
 have HL : Hid (Below w.heap.size w (w.alloc (.cells (#[.pointer B,.int .u32 0,.int .u32 0,.int .u32 0,.int .u32 0,.int .u32 0,.int .u32 0,.int .u32 0,.int .u32 0,.int .u32 0,.int .u32 0,.int .u32 0,.int .u32 0,.int .u32 0,.int .u32 0,.int .u32 0,.int .u32 0]) 70))) := hQ_ (bW_)
 go_enter Tryz.func8,Tryz.ntmps8
 go_wp2_with fail
 go_ret
 exact ⟨rfl,⟨HB.out,rfl,by decide⟩,HL.out⟩
theorem sl_bs {w : World} {A : Option Addr} {n : Nat} {L : List Int} (h : Sl u8E w A n L) (hb : ∀ x ∈ L,0 ≤ x ∧ x ≤ 255) : Bs w A n L := by
 refine ⟨h.1,hb,fun k hk => ?_⟩
 obtain ⟨x,b,o,hx,e,hlt,hc⟩ := h.get k hk
 refine ⟨b,o,e,hlt,?_⟩
 have h0 := hc 0 _ rfl
 rw [List.getD_eq_getElem?_getD,hx]
 have e2 : o + k * u8E.size + 0 = o + k := by show o + k * 1 + 0 = o + k; omega
 rw [e2] at h0
 exact h0
theorem conv_so {w : World} {base m : Nat} {u : Value} {L : List Int} (h : So u8E 5 w base u m L) (hb : ∀ x ∈ L,0 ≤ x ∧ x ≤ 255) : (convert 39 9 u).run Tryz.prog w = .ok (.string (str L)) w := by
 obtain ⟨A,c,rfl⟩ : ∃ A c,u = .slice A m c := by
  rcases h.form with ⟨e1,e2⟩ | ⟨g,cap,e1,_⟩
  ·exact ⟨none,0,by rw [e1,e2]⟩
  ·exact ⟨_,cap,e1⟩
 have q := sl_bs h.sl hb
 exact q.str_ (P := Tryz.prog) 39 9 Tryz.underlying39 Tryz.underlying5 Tryz.underlying9
theorem lim_sm {s : Vs} (h1 : s.base = []) (h2 : s.rd.length ≤ 500) (h3 : s.rg.length ≤ 50) : Lim s := ⟨by rw [h1]; exact Nat.zero_le _,by omega,by omega⟩
section
variable {w w' : World} {g : Nat} {v : Value} {hs : List Int} {s t : Vs} {S D : Nat → Prop} {e : Ending}
theorem step_n {er N : Int} {ps : List Wrt} {k m : Nat} (h : DoE Rep (QN hs s er N ps k m) g v S D w e w') (hsm : Sm s t) (hg : (goW t ps).2 = true) (he : er = 0) :
 ∃ s' S' D',e = .returned (.agg #[.int .i64 0,.int .i64 N,.slice none 0 0,.slice none 0 0,.int .u8 0,.int .u32 0,.int .u32 0,.int .u32 0]) ∧ Dst Rep w' g v hs s' S' D' ∧ Dstp S D S' D' g w w' ∧ Sm s' (goW t ps).1 ∧ s'.rd.length ≤ s.rd.length + k ∧ s'.rg.length ≤ s.rg.length + m := by
 obtain ⟨r,hs',s',S',D',rfl,hd,st,_,rfl,J,hJ,rfl,ha⟩ := h
 have h1 := goW_sm ps hsm
 rw [h1.2,if_pos hg,he] at hJ
 subst hJ
 exact ⟨s',S',D',rfl,hd,st,ha.sm.trans h1.1,ha.rd,ha.rg⟩
theorem step_o {path : ByteArray} {x : Int × Int × List Int} (h : DoE Rep (QO s path x) g v S D w e w') (hsm : Sm s t) :
 ∃ s' S' D',e = .returned (.agg #[.int .i64 x.1,.int .i64 x.2.1,.slice none 0 0,.slice none 0 0,.int .u8 0,.int .u32 0,.int .u32 0,.int .u32 0]) ∧ Dst Rep w' g v x.2.2 s' S' D' ∧ Dstp S D S' D' g w w' ∧ Sm s' t ∧ s'.rd.length ≤ s.rd.length + 40 ∧ s'.rg.length ≤ s.rg.length := by
 obtain ⟨r,hs',s',S',D',rfl,hd,st,_,rfl,rfl,hf⟩ := h
 exact ⟨s',S',D',rfl,hd,st,(Sm.of_find hf).trans hsm,hf.len,by rw [hf.rg]; exact Nat.le_refl _⟩
end
theorem mxs_step {w w' : World} {g : Nat} {S D S' D' : Nat → Prop} (h : Mxs w S) (hg : 0 ≠ g) (st : Dstp S D S' D' g w w') : Mxs w' S' := by
 refine ⟨?_,fun hs => ?_⟩
 ·obtain ⟨m,hm⟩ := h.1
  exact ⟨m,st.chg.cell hm (fun e => e.elim h.2 (fun e => hg e))⟩
 ·rcases st.own _ hs with h1 | h1
  ·exact h.2 h1
  ·have := h.lt
   omega
theorem bel_dst {w0 w w' : World} {g : Nat} {S D S' D' : Nat → Prop} (hb : Below w0.heap.size w0 w) (lo : ∀ b,S b → w0.heap.size ≤ b) (hg : w0.heap.size ≤ g) (st : Dstp S D S' D' g w w') : Below w0.heap.size w0 w' ∧ ∀ b,S' b → w0.heap.size ≤ b :=
 ⟨below_chg hb st.chg (fun b h => h.elim (lo b) (fun e => by have e' : b = g := e; omega)) (Nat.le_refl _),new_own lo hb.size st.own⟩
theorem b120 : ∀ x ∈ ([120,121] : List Int),0 ≤ x ∧ x ≤ 255 := by decide
theorem fixed_calls (hW : Wk Rep) (hLk : LookOk Rep) (hSt : SetOk Rep) (hN : NewB Rep) (hPt : ∀ (w : World) (v : Value) (s : Vs) (S D : Nat → Prop),Rep w v s S D → ∃ A,v = .pointer A) (w : World) (hmx : Mx w) : Calls Tryz.prog 16 #[] w fun e w' => e = .returned (.bool true) ∧ Below w.heap.size w w' := by
 have HMX := hQ_ hmx
 have HN := hQ_ hN
 have HW := hQ_ hW
 have HLK := hQ_ hLk
 have HST := hQ_ hSt
 have HPT := hQ_ hPt
 clear hN hmx hW hLk hSt hPt
 go_enter Tryz.func16,Tryz.ntmps16
 go_wp2_with fail
 refine (TreeG.new_calls _).mono ?_
 rintro e w1 ⟨v0,hh0,rfl,hr0,hb1⟩
 have HB1 := hQ_ hb1
 have HR0 := hQ_ hr0
 clear hb1 hr0
 go_wp2_with fail
 refine (HN.out HR0.out (Nat.zero_le _) (fun p hp => by cases hp)).mono ?_
 rintro e w2 ⟨v,S,D,rfl,hr2,hS2,hD2,hb2⟩
 obtain ⟨A,rfl⟩ := HPT.out _ _ _ _ _ hr2
 have HB2 := hQ_ (Own.keeps HB1.out hb2)
 have hS0 : ∀ b,S b → w.heap.size ≤ b := fun b hb => Nat.le_trans HB1.out.size (hS2 b hb)
 have HR2 := hQ_ hr2
 have HS2 := hQ_ hS0
 clear hb2 hr2 hS2 hD2 hS0
 go_wp2_with fail
 refine (new_desk A _).mono ?_
 rintro e w3 ⟨rfl,hd3,hb3⟩
 obtain ⟨g,hg⟩ : ∃ g,w2.heap.size = g := ⟨_,rfl⟩
 rw [hg] at hd3 ⊢
 have hgw : w.heap.size ≤ g := by have := HB2.out.size; omega
 have HB3 := hQ_ (Own.keeps HB2.out hb3)
 have D3 : Dst Rep w3 g (.pointer A) h0 s0 S D := ⟨HW.out.stays.below HR2.out hb3,hd3,fun e => by have := HW.out.stays.lt HR2.out g e; omega⟩
 have hmg : 0 ≠ g := by
  obtain ⟨m,hm⟩ := HMX.out
  have h1 := World.block_lt_of_cell? w ⟨0,0,none⟩ hm
  dsimp only at h1
  omega
 have M3 : Mxs w3 S := ⟨HMX.out.below HB3.out,fun hs => by
  obtain ⟨m,hm⟩ := HMX.out
  have h1 := World.block_lt_of_cell? w ⟨0,0,none⟩ hm
  have h2 := HS2.out _ hs
  dsimp only at h1
  omega⟩
 have c1 := do_create HW.out ⟨4,pa,⟨#[]⟩,0,0,0,none,0,0⟩ 2 rfl D3 (lim_sm (s := s0) rfl (Nat.zero_le _) (Nat.zero_le _)) (Nat.zero_le _) (Nat.zero_le _) M3 (by decide) (by decide) (by decide)
 dsimp only [Op20.val,Op20.cells,pa] at c1
 have C1 := hQ_ c1
 have MG := hQ_ hmg
 have GW := hQ_ hgw
 have HM3 := hQ_ M3
 have FA := field_0 (.int .i64 0) (.int .i64 0) (.slice none 0 0) (.slice none 0 0) (.int .u8 0) (.int .u32 0) (.int .u32 0) (.int .u32 0)
 have FB := field_1 (.int .i64 0) (.int .i64 0) (.slice none 0 0) (.slice none 0 0) (.int .u8 0) (.int .u32 0) (.int .u32 0) (.int .u32 0)
 have FC := field_1 (.int .i64 0) (.int .i64 2) (.slice none 0 0) (.slice none 0 0) (.int .u8 0) (.int .u32 0) (.int .u32 0) (.int .u32 0)
 clear hg hd3 hb3 D3 hmg hgw M3 c1
 go_wp2_with fail
 refine C1.out.mono ?_
 intro e w4 h4
 obtain ⟨t4,S4,D4,rfl,d4,st4,sm4,rd4,rg4⟩ := step_n h4 (Sm.refl s0) f1.2 f1.1
 obtain ⟨B4,L4⟩ := bel_dst HB3.out HS2.out GW.out st4
 have M4 := mxs_step HM3.out MG.out st4
 have sh4 : t4.shown = s1.shown := sm4.shown
 have hb4 : t4.base = [] := by rw [sm4.base,goW_base]; rfl
 have r4 : t4.rd.length ≤ 41 := by simpa [s0] using rd4
 have g4 : t4.rg.length ≤ 0 := by simpa [s0] using rg4
 have c2 := do_open HW.out ⟨6,pa,⟨#[]⟩,0,0,0,none,0,0⟩ 0 rfl d4 (lim_sm hb4 (by omega) (by omega)) (by omega) (by omega) M4 (by decide)
 dsimp only [Op20.val,Op20.cells] at c2
 rw [sh4,f2] at c2
 dsimp only [pa] at c2
 have C2 := hQ_ c2
 have HB4 := hQ_ (And.intro B4 L4)
 have HM4 := hQ_ M4
 have SM4 : Hid (Sm t4 s1) := hQ_ sm4
 have HD4 := hQ_ (And.intro hb4 (And.intro r4 g4))
 clear h4 d4 st4 sm4 rd4 rg4 B4 L4 M4 sh4 hb4 r4 g4 c2 C1
 go_wp2_with fail
 refine C2.out.mono ?_
 intro e w5 h5
 obtain ⟨t5,S5,D5,rfl,d5,st5,sm5,rd5,rg5⟩ := step_o h5 SM4.out
 dsimp only
 obtain ⟨B5,L5⟩ := bel_dst HB4.out.1 HB4.out.2 GW.out st5
 have M5 := mxs_step HM4.out MG.out st5
 have sh5 : t5.shown = s1.shown := sm5.shown
 have hb5 : t5.base = [] := by rw [sm5.base,← SM4.out.base]; exact HD4.out.1
 have hr4 := HD4.out.2
 have hba := bN_ w5 (.cells #[.int .u8 120,.int .u8 121] 5 (2,3))
 have hx : Bs (w5.alloc (.cells #[.int .u8 120,.int .u8 121] 5 (2,3))) (some ⟨w5.heap.size,0,none⟩) 2 [120,121] := Bs.new_ w5 5 (2,3) [120,121] b120
 have c3 := do_write HW.out HLK.out HST.out ⟨9,⟨#[]⟩,⟨#[]⟩,0,0,0,some ⟨w5.heap.size,0,none⟩,2,2⟩ 0 rfl (d5.below HW.out.stays hba) (lim_sm hb5 (by omega) (by omega)) (by omega) (show (-9223372036854775808 : Int) ≤ 0 by decide) (show (0 : Int) ≤ 9223372036854775807 by decide) hx (Nat.le_refl 2) (show 2 ≤ 9223372036854775807 by decide) (fun _ b of e => by
  injection e with e
  injection e with e _
  subst e
  exact ⟨fun q => Nat.lt_irrefl _ (HW.out.stays.lt d5.rep _ (HW.out.stays.sub d5.rep _ q)),by simp⟩) (v64_all (by rw [sh5]; exact small1) _)
 have e3 : wrtD t5.shown h1 0 0 [120,121] = wriV s1.shown 2 0 [120,121] := by rw [sh5]; unfold wrtD; rw [f3]; rfl
 dsimp only [Op20.val,Op20.cells] at c3
 rw [e3] at c3
 have C3 := hQ_ c3
 have cvS : (convert 39 39 (.slice (some ⟨w5.heap.size,0,none⟩) 2 2)).run Tryz.prog (w5.alloc (.cells #[.int .u8 120,.int .u8 121] 5)) = .ok (.slice (some ⟨w5.heap.size,0,none⟩) 2 2) (w5.alloc (.cells #[.int .u8 120,.int .u8 121] 5 (2,3))) :=
  Lib.run_convert_bytes_const (P := Tryz.prog) w5 39 5 #[.int .u8 120,.int .u8 121] 2 2 Tryz.underlying39 Tryz.underlying5
 have HB5 := hQ_ (And.intro (Own.keeps B5 hba) L5)
 have SM5 : Hid (Sm t5 s1) := hQ_ sm5
 have HD5 := hQ_ (And.intro hb5 (show t5.rd.length ≤ 100 ∧ t5.rg.length ≤ 10 by omega))
 clear h5 d5 st5 sm5 rd5 rg5 B5 L5 M5 sh5 hb5 hr4 hba hx c3 e3 C2
 go_wp2_with fail
 refine C3.out.mono ?_
 intro e w6 h6
 obtain ⟨t6,S6,D6,rfl,d6,st6,sm6,rd6,rg6⟩ := step_n h6 SM5.out f4.2 f4.1
 obtain ⟨B6,L6⟩ := bel_dst HB5.out.1 HB5.out.2 GW.out st6
 have sh6 : t6.shown = s2.shown := sm6.shown
 have hb6 : t6.base = [] := by rw [sm6.base,goW_base,← SM5.out.base]; exact HD5.out.1
 have hr5 := HD5.out.2
 have c4 := do_read HW.out HLK.out ⟨8,⟨#[]⟩,⟨#[]⟩,0,0,9,none,0,0⟩ 0 rfl d6 (lim_sm hb6 (by omega) (by omega)) (by omega) (by decide) (by decide) (by decide) (by decide) (v64_all (by rw [sh6]; exact small2) _)
 dsimp only [Op20.val,Op20.cells] at c4
 have C4 := hQ_ c4
 have HB6 := hQ_ (And.intro B6 L6)
 have SH6 := hQ_ sh6
 clear h6 d6 st6 sm6 rd6 rg6 B6 L6 sh6 hb6 hr5 c4 C3 cvS
 go_wp2_with fail
 refine C4.out.mono ?_
 rintro e w7 ⟨r,hs7,t7,S7,D7,rfl,d7,st7,_,rfl,hq⟩
 have HB7 := hQ_ (bel_dst HB6.out.1 HB6.out.2 GW.out st7).1
 obtain ⟨a,m,c,rfl,hso⟩ : ∃ (a : Option Addr) (m c : Nat),r = ⟨0,(m : Int),a,m,c,none,0,0,0,0,0,0⟩ ∧ So u8E 5 w7 w6.heap.size (.slice a m c) m [120,121] := by
  have e3 : (inoD h1 0).1 = 2 := by rw [f3]
  rcases hq with ⟨_,_,a,m,c,h1,h2⟩ | ⟨h1,_⟩
  ·rw [SH6.out,e3,f5] at h1 h2
   exact ⟨a,m,c,h1,h2⟩
  ·exact absurd (by rw [f3]) h1
 have cv := conv_so hso b120
 have e5 : str [120,121] = (⟨#[120,121]⟩ : ByteArray) := rfl
 rw [e5] at cv
 have FD := field_2 (.int .i64 0) (.int .i64 (m : Int)) (.slice a m c) (.slice none 0 0) (.int .u8 0) (.int .u32 0) (.int .u32 0) (.int .u32 0)
 clear hq hso d7 st7 e5
 dsimp only [Res20.val,Res20.cells]
 go_wp2_with fail
 go_ret
 exact ⟨rfl,HB7.out⟩
theorem form_n (w : World) (v : Value) (s : Vs) (S D : Nat → Prop) (h : WalkK.VRep w v s S D) : ∃ A,v = .pointer A := by
 obtain ⟨⟨g,_,_,_,_,_,rfl,_⟩,_⟩ := h
 exact ⟨_,rfl⟩
theorem look_n : LookOk WalkK.VRep := look_b ViewK.look_ok
theorem newb : NewB WalkK.VRep := new_b ViewK.new_ok
theorem set_n : SetOk WalkK.VRep := set_b ViewK.set_ok
theorem fix_ok : OpsL.FixOk := fun w hmx => fixed_calls DirsK.wk look_n set_n newb form_n w hmx
end Go.Proofs.YtogdjbhjgbnicaaGreatDoor.OpsF
namespace Go.Proofs.YtogdjbhjgbnicaaGreatDoor.OpsGa
open Go.RowKit
open Byte ViewM DirsV FileM FileV FileKe OpsR OpsE OpsI OpsTa OpsM OpsN OpsC
open TreeM (Pr)
theorem rdL_bd (L : List Pr) (ino : Int) (P : List (Int × Int × Int)) : ∀ x ∈ rdL L ino P,0 ≤ x ∧ x ≤ 255 := fun x hx => by
 unfold rdL at hx
 obtain ⟨p,_,hp⟩ := List.mem_flatMap.1 hx
 unfold pcB at hp
 exact getB_bd L ino p.1 x (List.mem_of_mem_drop (List.mem_of_mem_take hp))
theorem rea_bd (L : List Pr) (ino a n : Int) : ∀ x ∈ (reaV L ino a n).1,0 ≤ x ∧ x ≤ 255 := by
 unfold reaV
 split
 ·exact fun x hx => by cases hx
 ·split
  ·exact fun x hx => by cases hx
  ·exact rdL_bd L ino _
theorem out_ys (L : List Pr) (hs : List Int) (o : Op20) (xs : List Int) (ino : Int) : ∀ x ∈ (outO L hs o xs ino).ys,0 ≤ x ∧ x ≤ 255 := by
 have nl : ∀ x ∈ ([] : List Int),0 ≤ x ∧ x ≤ 255 := fun x hx => by cases hx
 unfold outO
 by_cases c4 : o.kind = 4
 ·rw [if_pos c4]
  exact nl
 rw [if_neg c4]
 by_cases c5 : o.kind = 5
 ·rw [if_pos c5]
  exact nl
 rw [if_neg c5]
 by_cases c6 : o.kind = 6
 ·rw [if_pos c6]
  exact nl
 rw [if_neg c6]
 by_cases c7 : o.kind = 7
 ·rw [if_pos c7]
  exact nl
 rw [if_neg c7]
 by_cases c8 : o.kind = 8
 ·rw [if_pos c8]
  split
  ·exact rea_bd L _ _ _
  ·exact nl
 rw [if_neg c8]
 by_cases c9 : o.kind = 9
 ·rw [if_pos c9]
  exact nl
 rw [if_neg c9]
 by_cases c10 : o.kind = 10
 ·rw [if_pos c10]
  exact nl
 rw [if_neg c10]
 by_cases c11 : o.kind = 11
 ·rw [if_pos c11]
  exact nl
 rw [if_neg c11]
 by_cases c12 : o.kind = 12
 ·rw [if_pos c12]
  exact nl
 rw [if_neg c12]
 by_cases c13 : o.kind = 13
 ·rw [if_pos c13]
  exact nl
 rw [if_neg c13]
 by_cases c14 : o.kind = 14
 ·rw [if_pos c14]
  exact nl
 rw [if_neg c14]
 by_cases c15 : o.kind = 15
 ·rw [if_pos c15]
  exact nl
 rw [if_neg c15]
 by_cases c16 : o.kind = 16
 ·rw [if_pos c16]
  exact nl
 rw [if_neg c16]
 exact nl
theorem list_len (d : Int) (L : List Pr) : (WalkM.listM d L).length ≤ L.length := by
 unfold WalkM.listM
 rw [List.length_map]
 exact List.length_filter_le _ _
theorem out_names (L : List Pr) (hs : List Int) (o : Op20) (xs : List Int) (ino : Int) : (outO L hs o xs ino).names.length ≤ L.length := by
 unfold outO
 by_cases c4 : o.kind = 4
 ·rw [if_pos c4]
  exact Nat.zero_le _
 rw [if_neg c4]
 by_cases c5 : o.kind = 5
 ·rw [if_pos c5]
  exact Nat.zero_le _
 rw [if_neg c5]
 by_cases c6 : o.kind = 6
 ·rw [if_pos c6]
  exact Nat.zero_le _
 rw [if_neg c6]
 by_cases c7 : o.kind = 7
 ·rw [if_pos c7]
  exact Nat.zero_le _
 rw [if_neg c7]
 by_cases c8 : o.kind = 8
 ·rw [if_pos c8]
  split
  ·exact Nat.zero_le _
  ·exact Nat.zero_le _
 rw [if_neg c8]
 by_cases c9 : o.kind = 9
 ·rw [if_pos c9]
  exact Nat.zero_le _
 rw [if_neg c9]
 by_cases c10 : o.kind = 10
 ·rw [if_pos c10]
  exact Nat.zero_le _
 rw [if_neg c10]
 by_cases c11 : o.kind = 11
 ·rw [if_pos c11]
  exact Nat.zero_le _
 rw [if_neg c11]
 by_cases c12 : o.kind = 12
 ·rw [if_pos c12]
  exact Nat.zero_le _
 rw [if_neg c12]
 by_cases c13 : o.kind = 13
 ·rw [if_pos c13]
  exact Nat.zero_le _
 rw [if_neg c13]
 by_cases c14 : o.kind = 14
 ·rw [if_pos c14]
  exact Nat.zero_le _
 rw [if_neg c14]
 by_cases c15 : o.kind = 15
 ·rw [if_pos c15]
  show (lstV L o.path).1.length ≤ L.length
  unfold lstV
  split
  ·exact Nat.zero_le _
  ·split
   ·exact Nat.zero_le _
   ·split
    ·exact Nat.zero_le _
    ·exact list_len _ _
 rw [if_neg c15]
 by_cases c16 : o.kind = 16
 ·rw [if_pos c16]
  exact Nat.zero_le _
 rw [if_neg c16]
 exact Nat.zero_le _
end Go.Proofs.YtogdjbhjgbnicaaGreatDoor.OpsGa
namespace Go.Proofs.YtogdjbhjgbnicaaGreatDoor.OpsGh
open Go.RowKit
open Ho Byte KeysM TreeM ViewM NamesL WalkM DirsV Lst Chg TreeL ViewL WalkL WalkV Vat DirsK DirsKa DirsKc FileKd OpsR OpsE OpsI OpsS OpsT OpsTa OpsM OpsN OpsP OpsC OpsX
open Own hiding keeps lower
variable {Rep : RepT}
section
variable {k : Nat} {w w' : World} {g : Nat} {v : Value} {hs : List Int} {s : Vs} {S D : Nat → Prop}
theorem not_great {o : Op20} (h : great o = false) : o.path.size ≤ 600 ∧ o.other.size ≤ 600 ∧ o.dn ≤ 1500 := by
 unfold great at h
 simp only [Bool.or_eq_false_iff,decide_eq_false_iff_not] at h
 omega
theorem op_own (hV : Stays Rep) {w1 : World} (h : Pk Rep k w g v hs s S D) {o : Op20} (ho : Op20G w1 o) (hg : great o = false) {q c : Nat} {xs : List Int} (hx : ∀ x ∈ xs,0 ≤ x ∧ x ≤ 255) (hso : So u8E 5 w' w.heap.size (.slice (some ⟨q,0,none⟩) o.dn c) o.dn xs) (h1 : w.heap.size ≤ q) (h2 : q < w'.heap.size) (h3 : o.dn ≤ c) (h4 : c ≤ maxLen) : OpB w' S (withD o q c) xs := by
 have hs := not_great hg
 refine ⟨?_,?_,ho.frm,ho.n,sl_bs hso.sl hx,h3,?_,fun _ b of e => ?_⟩
 ·show o.path.size ≤ 100000
  omega
 ·show o.other.size ≤ 100000
  omega
 ·show c ≤ 9223372036854775807
  unfold maxLen at h4
  exact h4
 ·have e' : q = b := by
   injection e with e
   injection e with e _
  subst e'
  exact ⟨fun hS => by have := hV.lt h.dst.rep q (hV.sub h.dst.rep q hS); omega,h2⟩
end
end Go.Proofs.YtogdjbhjgbnicaaGreatDoor.OpsGh
namespace Go.Proofs.YtogdjbhjgbnicaaGreatDoor.OpsGx
open Go.RowKit Go.ChangeShapes Go.WideShapes Go.Deep Go.Maps
open Lst Byte Nest TreeM ViewM ViewL WalkL WalkV ViewKs ViewKw OpsR OpsX OpsC
section
variable {H : Type} {enc : TypeId × Value → H} {w : World} {base fuel : Nat}
theorem ops_of {cs : List Value} {x : DataW H × List MemPlace} (h : DataW.trod enc Tryz.prog w base (fun _ => true) true fuel 22 cs = some x) :
 ∃ A m c,∃ L : List Op20,cs = [.slice A m c] ∧ m ≤ c ∧ c ≤ maxLen ∧ Sl o7E w A m L ∧ ∀ p ∈ L,Op20G w p := by
 haveI : Inhabited Op20 := ⟨⟨0,⟨#[]⟩,⟨#[]⟩,0,0,0,none,0,0⟩⟩
 obtain ⟨A,m,c,L,h1,h2,h3,h4,h5,_⟩ := sl_deep o7E (Op20G w) Tryz.underlying22 (by kernel_rfl) (fun es n z hl hs => by
  obtain ⟨o,e,hg⟩ := cells_of hs
  exact ⟨o,e,hg⟩) h
 exact ⟨A,m,c,L,h1,h2,h3,h4,h5⟩
end
theorem copy_v : FileKf.CpN ViewK.VRep := by
 rintro w v s S D ⟨g,b,sh,wt,rd,rg,rfl,hv,h1,h2,rfl,rfl⟩ hl
 obtain ⟨l1,l2,l3,l4,l5,l6⟩ := ViewK.lens hl h1
 refine (copy_calls hv l6).mono ?_
 rintro e w' ⟨c,rg',rfl,hc,hn,hv',hb⟩
 refine ⟨_,_,_,rfl,⟨c,b,sh,wt,rd,rg',rfl,hv',h1,h2,rfl,rfl⟩,fun q hq => ?_,hb⟩
 rcases hq with rfl | hq
 ·exact hc
 ·exact hn q hq
theorem copy_n : FileKf.CpN WalkK.VRep := fun _ _ _ _ _ r hl => (copy_v r.1 hl).mono fun _ _ ⟨v',S',D',e,hr,h1,h2⟩ => ⟨v',S',D',e,⟨hr,r.2⟩,h1,h2⟩
theorem vw : OpsP.Vw20 WalkK.VRep := ⟨DirsK.wk,OpsF.look_n,OpsF.set_n,copy_n,RgN.range_n,DirsBl.list_n⟩
end Go.Proofs.YtogdjbhjgbnicaaGreatDoor.OpsGx
namespace Go.Proofs.YtogdjbhjgbnicaaGreatDoor.DirsY
open Byte PackM KeysM TreeM ViewM ViewKm NamesM WalkM WalkF WalkKm DirsM DirsV DirsW DirsX
open NodeM hiding gk
open FileM
def inoL (π : Int → Int) (n : Nd) : Ino := ⟨n.kind,n.links,n.data.size,if n.kind = 2 then π n.ino else 0⟩
structure Fine (π : Int → Int) (n : Nd) : Prop where
 kl : (n.kind = 1 ∧ 1 ≤ n.links ∧ n.links ≤ 1000) ∨ (n.kind = 2 ∧ 2 ≤ n.links ∧ n.links ≤ 4294967295)
 p0 : 0 ≤ π n.ino
 p1 : π n.ino ≤ 4294967295
 d : n.data.size ≤ 4096 ∧ (n.kind = 2 → n.data = NE)
section
variable {F : Fs} {π : Int → Int} {g : Gf} {L : List Pr}
theorem load_put {k l z p : Int} (hm : may k l z p = true) (k0 : 0 ≤ k) (k1 : k ≤ 255) (l0 : 0 ≤ l) (l1 : l ≤ 4294967295) (s0 : 0 ≤ z) (s1 : z ≤ 4294967295) (p0 : 0 ≤ p) (p1 : p ≤ 4294967295) {i : Int} (h : g (kI i) = some (nput k l z p)) : loadG g i = (⟨k,l,z,p⟩,true) := by
 unfold loadG
 rw [h]
 dsimp only
 rw [gok_put k0 k1 l0 l1 s0 s1 p0 p1,if_pos hm]
 show ((⟨NodeM.gk (nput k l z p),gl (nput k l z p),gs (nput k l z p),gp (nput k l z p)⟩ : Ino),true) = _
 rw [NodeM.gk_put k0 k1,gl_put k0 k1 l0 l1,gs_put k0 k1 s0 s1,gp_put k0 k1 p0 p1]
theorem load_at (h : RG F π g) {n : Nd} (hn : n ∈ F) (hf : Fine π n) (h1 : π 1 = 1) : loadG g n.ino = (inoL π n,true) := by
 have hp0 : 0 ≤ (if n.kind = 2 then π n.ino else 0) ∧ (if n.kind = 2 then π n.ino else 0) ≤ 4294967295 := by
  have := hf.p0; have := hf.p1
  split <;> omega
 have hd := hf.d
 have hm : may n.kind n.links n.data.size (if n.kind = 2 then π n.ino else 0) = true := by
  rcases hf.kl with ⟨h2,h3,h4⟩ | ⟨h2,h3,h4⟩
  ·rw [h2,may_file]
   simp
   omega
  ·have h0 : n.data.size = 0 := by rw [hd.2 h2]; rfl
   rw [h2,may_else (by decide),h0]
   simp
   omega
 rcases h.inos n hn with h3 | ⟨h3,h4,h5,h6⟩
 ·exact load_put hm (by rcases hf.kl with h | h <;> omega) (by rcases hf.kl with h | h <;> omega) (by rcases hf.kl with h | h <;> omega) (by rcases hf.kl with h | h <;> omega) (by omega) (by omega) hp0.1 hp0.2 h3
 ·unfold loadG inoL
  rw [h3,h6,h4,h5,h1,hd.2 h4]
  rfl
theorem g_none (h : RG F π g) (b : Bs F) {i : Int} (h1 : 0 ≤ i) (h2 : i ≤ 4294967295) (hi : nodeM F i = none) : g (kI i) = none := by
 cases hg : g (kI i) with
 | none => rfl
 | some v =>
   exfalso
   rcases h.keys (kI i) (by rw [hg]; simp) with ⟨n,h3,h4⟩ | ⟨n,h3,e,h4,h5⟩ | ⟨n,h3,w,h4,h5⟩
   ·have hb := b.ino n h3
    exact node_none hi n h3 (kI_inj h1 h2 (by omega) hb.2 h4).symm
   ·have hb := b.ino n h3
    exact kIE h1 h2 (by omega) hb.2 (b.name n h3 e h4) h5
   ·have hb := b.ino n h3
    exact kID h1 h2 (by omega) hb.2 h4 h5.1
theorem load_no (h : RG F π g) (b : Bs F) {i : Int} (h1 : 0 ≤ i) (h2 : i ≤ 4294967295) (h3 : i ≠ 1) (hi : nodeM F i = none) : loadG g i = (ino0,false) := by
 unfold loadG
 rw [g_none h b h1 h2 hi]
 exact if_neg h3
theorem g_noent (h : RG F π g) (b : Bs F) {d : Int} {nm : ByteArray} (h1 : 0 ≤ d) (h2 : d ≤ 4294967295) (hnm : goodN nm) (hi : ∀ n ∈ F,n.ino = d → ∀ e ∈ n.ents,e.name ≠ nm) : g (kE d nm) = none := by
 cases hg : g (kE d nm) with
 | none => rfl
 | some v =>
   exfalso
   rcases h.keys (kE d nm) (by rw [hg]; simp) with ⟨n,h3,h4⟩ | ⟨n,h3,e,h4,h5⟩ | ⟨n,h3,w,h4,h5⟩
   ·have hb := b.ino n h3
    exact kIE (by omega) hb.2 h1 h2 hnm h4.symm
   ·have hb := b.ino n h3
    have h6 := kE_inj h1 h2 (by omega) hb.2 hnm (b.name n h3 e h4) h5
    exact hi n h3 h6.1.symm e h4 h6.2.symm
   ·have hb := b.ino n h3
    exact kED h1 h2 (by omega) hb.2 hnm h4 h5.1
theorem child_at (h : RG F π g) (b : Bs F) (hs : ∀ n ∈ F,∀ e ∈ n.ents,1 ≤ e.ino ∧ e.ino ≤ 4294967295) {n : Nd} (hn : n ∈ F) {nm : ByteArray} (hnm : goodN nm) : childG g n.ino nm = (entryM n nm,decide (entryM n nm ≠ 0)) := by
 have hb := b.ino n hn
 unfold childG
 rcases entry_ways n nm with ⟨e,h1,h2,h3⟩ | ⟨h1,h2⟩
 ·have h4 := hs n hn e h1
  rw [← h2,h.ents n hn e h1]
  dsimp only
  rw [if_pos (hangV_size _),hangV_get (by omega) h4.2,entry_some (b.ord n hn) h1,decide_eq_true (by omega)]
 ·rw [g_noent h b (by omega) hb.2 hnm (fun m hm e => by rw [nod_eq b.nod hm hn e]; exact h1),h2]
  rfl
def inoAt (F : Fs) (π : Int → Int) (i : Int) : Ino := match nodeM F i with
 | some n => inoL π n
 | none => ino0
def spotOf (F : Fs) (π : Int → Int) (s : Spt) : Spot := ⟨s.dir,s.name,s.ino,inoAt F π s.ino⟩
theorem inoAt_some {i : Int} {n : Nd} (h : nodeM F i = some n) : inoAt F π i = inoL π n := by unfold inoAt; rw [h]
theorem inoAt_none {i : Int} (h : nodeM F i = none) : inoAt F π i = ino0 := by unfold inoAt; rw [h]
structure Led (F : Fs) (s : Spt) : Prop where
 way : (s.dir = 0 ∧ s.name = NE ∧ s.ino = 1) ∨ (nameOk s.name = true ∧ ∃ d,nodeM F s.dir = some d ∧ d.kind = 2 ∧ entryM d s.name = s.ino)
 at_ : s.ino = 0 ∨ ∃ n,nodeM F s.ino = some n
structure Sim (F : Fs) (π : Int → Int) (g : Gf) : Prop where
 wf : Wf F π
 rg : RG F π g
 pb : ∀ j,0 ≤ π j ∧ π j ≤ 4294967295
 small : ∀ n ∈ F,n.ents.length ≤ 1000
theorem Sim.bs (h : Sim F π g) : Bs F := .of h.wf
theorem Sim.zero (h : Sim F π g) : nodeM F 0 = none := node_no fun x hx e => by have := (h.wf.ino x hx).1; omega
theorem Sim.fine (h : Sim F π g) {n : Nd} (hn : n ∈ F) : Fine π n := by
 refine ⟨?_,(h.pb _).1,(h.pb _).2,h.wf.data n hn⟩
 rcases h.wf.kind n hn with h1 | h1
 ·have h2 := h.wf.dl n hn h1
  have h3 : subs F n.ents ≤ n.ents.length := List.countP_le_length
  have h4 := h.small n hn
  have h5 : zro n.ino = 0 := rfl
  exact .inr ⟨h1,by omega,by omega⟩
 ·exact .inl ⟨h1.1,h.wf.pos n hn h1.1⟩
theorem Sim.load (h : Sim F π g) {i : Int} {n : Nd} (hn : nodeM F i = some n) : loadG g i = (inoL π n,true) := by
 have h1 := node_mem hn
 rw [← h1.2]
 exact load_at h.rg h1.1 (h.fine h1.1) h.wf.par1
theorem Sim.step (h : Sim F π (DirsX.gk L)) {x : Spot} {n : Nd} (hn : nodeM F x.ino = some n) {nm : ByteArray} (hnm : goodN nm) : stepM L x nm = spotOf F π ⟨x.ino,nm,entryM n nm⟩ ∧ (entryM n nm = 0 ∨ ∃ m,nodeM F (entryM n nm) = some m) := by
 have h1 := node_mem hn
 have hc := child_at h.rg h.bs h.wf.some_ h1.1 hnm
 rw [h1.2] at hc
 unfold stepM
 rw [child_g,hc]
 rcases entry_ways n nm with ⟨e,h2,h3,h4⟩ | ⟨h2,h3⟩
 ·have h5 := h.wf.some_ n h1.1 e h2
  obtain ⟨m,hm⟩ := h.wf.goes n h1.1 e h2 (by omega)
  rw [h4]
  refine ⟨?_,.inr ⟨m,hm⟩⟩
  dsimp only
  rw [load_g,h.load hm,if_pos (by simp; omega)]
  unfold spotOf
  rw [inoAt_some hm]
 ·rw [h3]
  refine ⟨?_,.inl rfl⟩
  dsimp only
  rw [if_neg (by simp)]
  unfold spotOf
  rw [inoAt_none h.zero]
theorem Sim.find_l (h : Sim F π (DirsX.gk L)) : ∀ (l : List ByteArray) {s : Spt},(∀ x ∈ l,nameOk x = true) → Led F s → findL L (spotOf F π s) l = (spotOf F π (fndL F s l).1,(fndL F s l).2) ∧ ((fndL F s l).2 = 0 → Led F (fndL F s l).1)
 | [],s,_,hs => ⟨rfl,fun _ => hs⟩
 | nm :: r,s,hl,hs => by
   have hnm := hl nm (by simp)
   unfold findL fndL
   by_cases h0 : s.ino = 0
   ·rw [if_pos (show (spotOf F π s).ino = 0 from h0),if_pos h0]
    refine ⟨?_,fun h => by cases h⟩
    show (spot0,(10 : Int)) = (spotOf F π spt0,10)
    unfold spotOf
    rw [show spt0.ino = 0 from rfl,inoAt_none h.zero]
    rfl
   ·rw [if_neg (show ¬ (spotOf F π s).ino = 0 from h0),if_neg h0]
    obtain ⟨n,hn⟩ := hs.at_.resolve_left h0
    have hk : (spotOf F π s).node.k = n.kind := by show (inoAt F π s.ino).k = _; rw [inoAt_some hn]; rfl
    rw [hn,hk]
    dsimp only
    by_cases hk2 : n.kind = 2
    ·rw [if_neg (fun h => h hk2),if_neg (fun h => h hk2)]
     have h1 := h.step (x := spotOf F π s) (n := n) hn (good_of hnm)
     rw [h1.1]
     exact h.find_l r (fun x hx => hl x (by simp [hx])) ⟨.inr ⟨hnm,n,hn,hk2,rfl⟩,h1.2⟩
    ·rw [if_pos hk2,if_pos hk2]
     refine ⟨?_,fun h => by cases h⟩
     show (spot0,(12 : Int)) = (spotOf F π spt0,12)
     unfold spotOf
     rw [show spt0.ino = 0 from rfl,inoAt_none h.zero]
     rfl
theorem spl_ok (s : ByteArray) : ∀ x ∈ (spl s).1,nameOk x = true := by
 unfold spl
 split
 ·exact fun x hx => by cases hx
 ·split
  ·exact fun x hx => by cases hx
  ·split
   ·exact fun x hx => by cases hx
   ·split
    ·rename_i h
     rw [Bool.and_eq_true,decide_eq_true_eq] at h
     exact fun x hx => List.all_eq_true.1 h.1 x hx
    ·exact fun x hx => by cases hx
theorem Sim.find (h : Sim F π (DirsX.gk L)) (path : ByteArray) : findM L path = (spotOf F π (fndM F path).1,(fndM F path).2) ∧ ((fndM F path).2 = 0 → Led F (fndM F path).1) := by
 unfold findM fndM
 by_cases hs : (spl path).2 ≠ 0
 ·rw [if_pos hs,if_pos hs]
  refine ⟨?_,fun h => absurd h hs⟩
  show (spot0,(spl path).2) = (spotOf F π spt0,(spl path).2)
  unfold spotOf
  rw [show spt0.ino = 0 from rfl,inoAt_none h.zero]
  rfl
 ·rw [if_neg hs,if_neg hs]
  obtain ⟨r,hr,hk⟩ := h.wf.root
  have h1 : (⟨0,⟨#[]⟩,1,(loadM L 1).1⟩ : Spot) = spotOf F π ⟨0,NE,1⟩ := by
   unfold spotOf
   rw [show (⟨0,NE,1⟩ : Spt).ino = 1 from rfl,inoAt_some hr,load_g,h.load hr]
  rw [h1]
  exact h.find_l _ (spl_ok path) ⟨.inl ⟨rfl,rfl,rfl⟩,.inr ⟨r,hr⟩⟩
theorem kE_txt {d : Int} {a : ByteArray} (h : a.size ≤ 32) : txt (kE d a) = kq 69 d ++ txt a := by
 unfold kE
 rw [if_neg (by omega),txt_append,ks_txt (by decide) (by decide)]
theorem kl_E {d : Int} {a b : ByteArray} (ha : a.size ≤ 32) (hb : b.size ≤ 32) : kl (kE d a) (kE d b) = kl a b := by
 rw [kl_lt,kl_lt,kE_txt ha,kE_txt hb,lt_append _ _ _ _ rfl,lt_irr]
 simp
theorem Sim.list (h : Sim F π (DirsX.gk L)) (hr : Rise L) (hg : ∀ p ∈ L,p.gone = false) {i : Int} {n : Nd} (hn : nodeM F i = some n) : listM i L = n.ents.map (·.name) := by
 have h1 := node_mem hn
 have hi := h.wf.ino n h1.1
 rw [h1.2] at hi
 have hnm : ∀ e ∈ n.ents,goodN e.name := h.bs.name n h1.1
 have hL : L.filter (entB i) = n.ents.map (fun e => ⟨kE i e.name,hangV e.ino,false⟩) := by
  refine rise_ext (List.Pairwise.filter _ hr) ?_ fun p => ?_
  ·unfold Rise
   rw [List.pairwise_map]
   refine List.Pairwise.imp_of_mem (fun {a b} ha hb hab => ?_) (h.wf.ord n h1.1)
   show kl (kE i a.name) (kE i b.name) = true
   rw [kl_E (hnm a ha).2 (hnm b hb).2]
   exact hab
  ·rw [List.mem_filter,List.mem_map]
   constructor
   ·rintro ⟨h2,h3⟩
    unfold entB at h3
    rw [Bool.and_eq_true,decide_eq_true_eq,decide_eq_true_eq] at h3
    have hv : DirsX.gk L p.key = some p.value := by unfold DirsX.gk; rw [get_mem hr h2]; rfl
    rcases h.rg.keys p.key (by rw [hv]; simp) with ⟨m,h4,h5⟩ | ⟨m,h4,e,h5,h6⟩ | ⟨m,h4,w,h5,h6,_⟩
    ·have hm := h.wf.ino m h4
     rw [h5,sp_I _ (by omega) hm.2] at h3
     exact absurd (show (73 : Int) = 69 from h3.1) (by decide)
    ·have hm := h.wf.ino m h4
     have hen := h.bs.name m h4 e h5
     rw [h6,sp_E _ _ (by omega) hm.2 hen.1 hen.2] at h3
     have hmi : m.ino = i := h3.2
     have : m = n := nod_eq h.wf.nod h4 h1.1 (by rw [hmi,h1.2])
     subst this
     refine ⟨e,h5,?_⟩
     have h7 := h.rg.ents m h4 e h5
     rw [← h6,hv] at h7
     injection h7 with h7
     rw [← hmi,← h6,← h7,← hg p h2]
    ·have hm := h.wf.ino m h4
     rw [h6,sp_D _ _ (by omega) hm.2 h5.1 h5.2] at h3
     exact absurd (show (68 : Int) = 69 from h3.1) (by decide)
   ·rintro ⟨e,h2,rfl⟩
    have h3 := h.rg.ents n h1.1 e h2
    rw [h1.2] at h3
    unfold DirsX.gk at h3
    cases hq : getL (kE i e.name) L with
    | none => rw [hq] at h3; cases h3
    | some q =>
      rw [hq] at h3
      injection h3 with h3
      have h4 := (get_iff hr).1 hq
      have h5 := hg q h4.1
      have h6 : q = ⟨kE i e.name,hangV e.ino,false⟩ := by rw [← h4.2,← h3,← h5]
      refine ⟨h6 ▸ h4.1,?_⟩
      unfold entB
      dsimp only
      rw [sp_E _ _ (by omega) hi.2 (hnm e h2).1 (hnm e h2).2]
      simp
 unfold listM
 rw [hL,List.map_map]
 refine List.map_congr_left fun e he => ?_
 show (sp (kE i e.name)).name = e.name
 rw [sp_E _ _ (by omega) hi.2 (hnm e he).1 (hnm e he).2]
end
end Go.Proofs.YtogdjbhjgbnicaaGreatDoor.DirsY
namespace Go.Proofs.YtogdjbhjgbnicaaGreatDoor.DirsS
open Byte PackM KeysM TreeM ViewM ViewKm NamesM WalkM WalkF WalkKm DirsM DirsV DirsW DirsX
open DirsY
open NodeM hiding gk
def tot (F : Fs) : Nat := S F fun n => n.ents.length
section
variable {F : Fs} {N M K : Nat}
theorem len_with (h : Nod F) {n m : Nd} (hm : m ∈ F) (hi : m.ino = n.ino) : (withM F n).length = F.length := by
 obtain ⟨A,B,h1,h2⟩ := with_at h hm hi
 rw [h2,h1]
 simp
theorem len_ins (nm : ByteArray) (i : Int) {l : List En} (h : Ord l) : (insE nm i (decide (i = 0)) l).length ≤ l.length + (if i = 0 then 0 else 1) := by
 have h1 := count_ins h nm i (fun _ => true)
 simp only [List.countP_true] at h1
 by_cases hi : i = 0
 ·rw [if_neg (fun h => h.1 hi)] at h1
  rw [if_pos hi]
  omega
 ·rw [if_pos ⟨hi,trivial⟩] at h1
  rw [if_neg hi]
  omega
theorem new_ino (k i : Int) : (newNd k i).ino = i := by unfold newNd; split <;> rfl
theorem new_ents (k i : Int) : (newNd k i).ents = [] := by unfold newNd; split <;> rfl
theorem new_data (k i : Int) : (newNd k i).data = NE := by unfold newNd; split <;> rfl
end
section
variable {F : Fs} {π : Int → Int} {g : Gf} {L : List Pr}
theorem rg_pi (h : RG F π g) {π' : Int → Int} (hp : ∀ n ∈ F,π' n.ino = π n.ino) : RG F π' g :=
 ⟨h.keys,fun n hn => by
   have e : inoW π' n = inoW π n := by unfold inoW; rw [hp n hn]
   rw [e]
   exact h.inos n hn,h.ents,h.blks⟩
theorem mem_of_node {A B : Fs} (ha : Nod A) (hb : Nod B) (h : ∀ j,nodeM A j = nodeM B j) (z : Nd) : z ∈ A ↔ z ∈ B := by
 constructor
 ·intro hz
  have := node_of ha hz
  rw [h] at this
  exact (node_mem this).1
 ·intro hz
  have := node_of hb hz
  rw [← h] at this
  exact (node_mem this).1
theorem rg_new (h : RG F π (DirsX.gk L)) (b : Bs F) (hr : Rise L) {n : Nd} (hn : nodeM F n.ino = none) (he : n.ents = []) (hd : n.data = NE) (h1 : 1 ≤ n.ino) (h2 : n.ino ≤ 4294967295) {k l z p : Int} (hv : nput k l z p = inoW π n) : RG (withM F n) π (DirsX.gk (doneW L (saveP n.ino k l z p L))) := by
 rw [gk_done hr]
 unfold saveP
 rw [hv]
 exact h.new_ b hn he hd h1 h2
theorem rg_save (h : RG F π (DirsX.gk L)) (b : Bs F) (hr : Rise L) {i y : Int} {n : Nd} (hn : nodeM F i = some n) {k l z p : Int} (hv : nput k l z p = inoW π { n with links := n.links + y }) : RG (linkedM F i y) π (DirsX.gk (doneW L (saveP i k l z p L))) := by
 have hm := node_mem hn
 rw [gk_done hr,linked_eq hn]
 unfold saveP
 rw [hv,← hm.2]
 rw [← hm.2] at hn
 exact h.save_ (n' := { n with links := n.links + y }) b hn rfl rfl rfl (fun j _ => rfl)
theorem rg_tie (h : RG F π (DirsX.gk L)) (b : Bs F) (hr : Rise L) {i y : Int} {n : Nd} (hn : nodeM F i = some n) (hf : Fine π n) (h1 : π 1 = 1) (hl : 0 ≤ n.links + y ∧ n.links + y ≤ 4294967295) : RG (linkedM F i y) π (DirsX.gk (doneW L (tieP i y L))) := by
 have hm := node_mem hn
 have hlo : loadM L i = (inoL π n,true) := by rw [load_g,← hm.2]; exact load_at h hm.1 hf h1
 have e : tieP i y L = saveP i n.kind (n.links + y) n.data.size (if n.kind = 2 then π n.ino else 0) L := by
  unfold tieP saveP
  rw [hlo]
  show (⟨kI i,nput n.kind (u32 (n.links + y)) n.data.size (if n.kind = 2 then π n.ino else 0),false⟩ : Pr) = _
  unfold u32
  rw [Int.emod_eq_of_lt hl.1 (by omega)]
 rw [e]
 exact rg_save h b hr hn rfl
theorem rg_adopt (h : RG F π (DirsX.gk L)) (b : Bs F) (hr : Rise L) {i p : Int} {n : Nd} (hn : nodeM F i = some n) (hk : n.kind = 2) (hf : Fine π n) (h1 : π 1 = 1) : RG F (upd π i p) (DirsX.gk (doneW L (adoptP p i L))) := by
 have hm := node_mem hn
 have hlo : loadM L i = (inoL π n,true) := by rw [load_g,← hm.2]; exact load_at h hm.1 hf h1
 have e : adoptP p i L = ⟨kI n.ino,inoW (upd π i p) n,false⟩ := by
  unfold adoptP inoW
  rw [hlo,if_pos hk,hm.2,upd_same]
  rfl
 rw [gk_done hr,e]
 have hn' := hn
 rw [← hm.2] at hn'
 refine (h.save_ (n' := n) b hn' rfl rfl rfl (fun j hj => by rw [← hm.2]; exact upd_ne _ _ hj)).congr fun z => ?_
 rw [mem_with b.nod hm.1 rfl]
 constructor
 ·intro hz
  by_cases e2 : z.ino = n.ino
  ·exact .inl (nod_eq b.nod hz hm.1 e2)
  ·exact .inr ⟨hz,e2⟩
 ·rintro (rfl | hz)
  ·exact hm.1
  ·exact hz.1
theorem rg_drop (h : RG F π (DirsX.gk L)) (b : Bs F) (hr : Rise L) {i : Int} {n : Nd} (hn : nodeM F i = some n) (he : n.ents = []) (hd : n.data = NE) : RG (withoutM F i) π (DirsX.gk (doneW L (dropP i L))) := by
 rw [gk_done hr]
 exact h.drop_ b hn he hd
theorem rg_hang (h : RG F π (DirsX.gk L)) (b : Bs F) (hr : Rise L) {d i : Int} {nm : ByteArray} {n : Nd} (hn : nodeM F d = some n) (hnm : goodN nm) (hi : i ≠ 0) : RG (namedM F d nm i) π (DirsX.gk (doneW L (hangP d nm i L))) := by
 rw [gk_done hr]
 exact h.hang_ b hn hnm rfl (by rw [decide_eq_false hi]; rfl) (fun _ => rfl)
theorem rg_unhang (h : RG F π (DirsX.gk L)) (b : Bs F) (hr : Rise L) {d : Int} {nm : ByteArray} {n : Nd} (hn : nodeM F d = some n) (hnm : goodN nm) : RG (namedM F d nm 0) π (DirsX.gk (doneW L (unhangP d nm L))) := by
 rw [gk_done hr]
 exact h.hang_ b hn hnm rfl rfl (fun h => absurd rfl h)
theorem rise_out : ∀ (ps : List Wrt) {L : List Pr},Rise L → Rise (outW L ps)
 | [],L,h => h
 | p :: ps,L,h => rise_out ps (rise_done h _)
theorem gone_out : ∀ (ps : List Wrt) {L : List Pr},(∀ p ∈ L,p.gone = false) → ∀ p ∈ outW L ps,p.gone = false
 | [],L,h => h
 | p :: ps,L,h => gone_out ps (gone_done h _)
theorem out_app : ∀ (ps qs : List Wrt) (L : List Pr),outW L (ps ++ qs) = outW (outW L ps) qs
 | [],qs,L => rfl
 | p :: ps,qs,L => out_app ps qs _
theorem _root_.Go.Proofs.YtogdjbhjgbnicaaGreatDoor.DirsW.Wd.eq_on {δ ε δ' ε' : Int → Int} {x : Int} (h : Wd F π δ ε x) (h1 : ∀ m ∈ F,δ m.ino = δ' m.ino) (h2 : ∀ m ∈ F,m.kind = 2 → ε m.ino = ε' m.ino) : Wd F π δ' ε' x :=
 { h with cnt := fun m hm => by rw [← h1 m hm]; exact h.cnt m hm,dl := fun m hm hk => by rw [← h2 m hm hk]; exact h.dl m hm hk }
end
end Go.Proofs.YtogdjbhjgbnicaaGreatDoor.DirsS
namespace Go.Proofs.YtogdjbhjgbnicaaGreatDoor.FileO
open Byte PackM KeysM TreeM ViewM ViewKm WalkM WalkF WalkKm DirsM DirsV DirsW DirsX DirsY DirsS FileM FileV FileN
open NodeM hiding gk
def wrD (d : ByteArray) (a : Nat) (b : List Int) : ByteArray := str (setB (txt d ++ List.replicate (a - d.size) 0) b a)
def truD (d : ByteArray) (z : Nat) : ByteArray := str ((txt d ++ List.replicate (z - d.size) 0).take z)
theorem pad0_bd (d : ByteArray) (k : Nat) : ∀ x ∈ txt d ++ List.replicate k (0 : Int),0 ≤ x ∧ x ≤ 255 := fun x hx => by
 rcases List.mem_append.1 hx with h | h
 ·exact txt_bd d x h
 ·rw [List.eq_of_mem_replicate h]; exact ⟨by decide,by decide⟩
theorem setB_bd {l xs : List Int} {f : Nat} (h : ∀ x ∈ l,0 ≤ x ∧ x ≤ 255) (h2 : ∀ x ∈ xs,0 ≤ x ∧ x ≤ 255) : ∀ x ∈ setB l xs f,0 ≤ x ∧ x ≤ 255 := fun x hx => by
 unfold setB at hx
 rcases List.mem_append.1 hx with h3 | h3
 ·exact h x (List.mem_of_mem_take h3)
 ·rcases List.mem_append.1 h3 with h4 | h4
  ·exact h2 x h4
  ·exact h x (List.mem_of_mem_drop h4)
theorem wrD_txt (d : ByteArray) (a : Nat) {b : List Int} (hb : ∀ x ∈ b,0 ≤ x ∧ x ≤ 255) : txt (wrD d a b) = setB (txt d ++ List.replicate (a - d.size) 0) b a := txt_str _ (setB_bd (pad0_bd _ _) hb)
theorem truD_txt (d : ByteArray) (z : Nat) : txt (truD d z) = (txt d ++ List.replicate (z - d.size) 0).take z := txt_str _ (fun x hx => pad0_bd _ _ x (List.mem_of_mem_take hx))
theorem pad0_get (d : ByteArray) (k i : Nat) : (txt d ++ List.replicate k (0 : Int)).getD i 0 = (txt d).getD i 0 := by
 rw [app_get]
 split
 ·rfl
 ·rename_i h
  rw [rep_get,pf_far (by omega)]
theorem wrD_fun (d : ByteArray) (a : Nat) {b : List Int} (hb : ∀ x ∈ b,0 ≤ x ∧ x ≤ 255) : pf (txt (wrD d a b)) = putF (pf (txt d)) a b := by
 funext i
 unfold pf
 rw [wrD_txt d a hb,setB_get _ _ _ _ (by rw [List.length_append,List.length_replicate,txt_len]; omega)]
 unfold putF pf
 rw [pad0_get]
theorem wrD_size (d : ByteArray) (a : Nat) (b : List Int) : (wrD d a b).size = max d.size (a + b.length) := by
 unfold wrD setB
 rw [str_size,List.length_append,List.length_append,List.length_take,List.length_drop,List.length_append,List.length_replicate,txt_len]
 omega
theorem truD_fun (d : ByteArray) (z : Nat) : pf (txt (truD d z)) = fun i => if i < z then pf (txt d) i else 0 := by
 funext i
 unfold pf
 rw [truD_txt,take_get,pad0_get]
theorem truD_size (d : ByteArray) (z : Nat) : (truD d z).size = z := by
 unfold truD
 rw [str_size,List.length_take,List.length_append,List.length_replicate,txt_len]
 omega
def filM (F : Fs) (ino : Int) : Option Nd := (nodeM F ino).filter fun n => decide (n.kind = 1)
def reaM (F : Fs) (ino a n : Int) : List Int × Int := match filM F ino with
 | none => ([],16)
 | some x => if a < 0 ∨ n < 0 ∨ 1024 < n then ([],15) else (((txt x.data).drop a.toNat).take n.toNat,0)
def wriM (F : Fs) (ino a : Int) (b : List Int) : Int × Fs := match filM F ino with
 | none => (16,F)
 | some x => if a < 0 ∨ 1024 < b.length then (15,F) else if 4096 - (b.length : Int) < a then (19,F) else if b.length = 0 then (0,F) else (0,withM F { x with data := wrD x.data a.toNat b })
def truM (F : Fs) (ino z : Int) : Int × Fs := match filM F ino with
 | none => (16,F)
 | some x => if z < 0 then (15,F) else if 4096 < z then (19,F) else (0,withM F { x with data := truD x.data z.toNat })
theorem fil_some {F : Fs} {ino : Int} {n : Nd} (h : filM F ino = some n) : nodeM F ino = some n ∧ n.kind = 1 ∧ n.ino = ino ∧ n ∈ F := by
 unfold filM at h
 obtain ⟨h1,h2⟩ := Option.filter_eq_some_iff.1 h
 have h3 := node_mem h1
 exact ⟨h1,by simpa using h2,h3.2,h3.1⟩
theorem fil_none {F : Fs} {ino : Int} (h : filM F ino = none) : nodeM F ino = none ∨ ∃ n,nodeM F ino = some n ∧ n.kind ≠ 1 := by
 unfold filM at h
 cases e : nodeM F ino with
 | none => exact .inl rfl
 | some n =>
   rw [e] at h
   refine .inr ⟨n,rfl,fun hk => ?_⟩
   rw [Option.filter_some,if_pos (by simpa using hk)] at h
   cases h
section
variable {F : Fs} {π δ ε : Int → Int} {x : Int} {L : List Pr}
theorem Wd.data_ (h : Wd F π δ ε x) {n : Nd} (hn : nodeM F n.ino = some n) {d : ByteArray} (hd : d.size ≤ 4096) (hk : n.kind = 1) : Wd (withM F { n with data := d }) π δ ε x := by
 have hm := node_mem hn
 have hN : ∀ j,nodeM (withM F { n with data := d }) j = if j = n.ino then some { n with data := d } else nodeM F j := fun j => node_with (n := { n with data := d }) h.nod hm.1 rfl j
 have hy : ∀ z ∈ withM F { n with data := d },∃ y ∈ F,z.ino = y.ino ∧ z.kind = y.kind ∧ z.links = y.links ∧ z.ents = y.ents ∧ z.data.size ≤ 4096 ∧ (z.kind = 2 → z.data = NE) := fun z hz => by
  rw [mem_with (n := { n with data := d }) h.nod hm.1 rfl] at hz
  rcases hz with rfl | ⟨hz,_⟩
  ·exact ⟨n,hm.1,rfl,rfl,rfl,rfl,hd,fun h2 => by have h3 : n.kind = 2 := h2; omega⟩
  ·exact ⟨z,hz,rfl,rfl,rfl,rfl,h.data z hz⟩
 have hdr : ∀ j,dirB (withM F { n with data := d }) j = dirB F j := fun j => by
  unfold dirB
  rw [hN]
  by_cases hj : j = n.ino
  ·rw [if_pos hj,hj,hn]
  ·rw [if_neg hj]
 have hs : ∀ l,subs (withM F { n with data := d }) l = subs F l := fun l => subs_eq (fun e _ => hdr e.ino)
 have hc : ∀ j,DirsM.cnt (withM F { n with data := d }) j = DirsM.cnt F j := fun j => by
  have := S_with (n := { n with data := d }) h.nod hm.1 rfl (toE j)
  have e : toE j { n with data := d } = toE j n := rfl
  unfold DirsM.cnt
  omega
 refine ⟨nod_with h.nod hm.1 rfl,?_,fun z hz => ?_,fun z hz => ?_,fun z hz => ?_,fun z hz => ?_,fun z hz => ?_,fun z hz => ?_,fun z hz e he hx => ?_,fun z hz e he hde => ?_,h.par1,fun z hz => ?_,fun z hz hk => ?_,fun z hz hk => ?_⟩
 ·obtain ⟨r,h3,h4⟩ := h.root
  rw [hN]
  by_cases hj : (1 : Int) = n.ino
  ·rw [if_pos hj]
   rw [hj,hn] at h3
   injection h3 with h3
   subst h3
   exact ⟨_,rfl,h4⟩
  ·rw [if_neg hj]
   exact ⟨r,h3,h4⟩
 ·obtain ⟨y,a,b,c,e,f,g⟩ := hy z hz
  rw [b]; exact h.ino y a
 ·obtain ⟨y,a,b,c,e,f,g⟩ := hy z hz
  rw [c,f]; exact h.kind y a
 ·obtain ⟨y,a,b,c,e,f,g⟩ := hy z hz
  exact g
 ·obtain ⟨y,a,b,c,e,f,g⟩ := hy z hz
  rw [f]; exact h.ord y a
 ·obtain ⟨y,a,b,c,e,f,g⟩ := hy z hz
  rw [f]; exact h.name y a
 ·obtain ⟨y,a,b,c,e,f,g⟩ := hy z hz
  rw [f]; exact h.some_ y a
 ·obtain ⟨y,a,b,c,e2,f,g⟩ := hy z hz
  rw [f] at he
  obtain ⟨m,hm2⟩ := h.goes y a e he hx
  rw [hN]
  by_cases hj : e.ino = n.ino
  ·rw [if_pos hj]; exact ⟨_,rfl⟩
  ·rw [if_neg hj]; exact ⟨m,hm2⟩
 ·obtain ⟨y,a,b,c,e2,f,g⟩ := hy z hz
  rw [f] at he
  rw [hdr] at hde
  rw [b]; exact h.par y a e he hde
 ·obtain ⟨y,a,b,c,e2,f,g⟩ := hy z hz
  rw [hc,b,h.cnt y a]
  unfold wantC
  rw [b,c,e2]
 ·obtain ⟨y,a,b,c,e2,f,g⟩ := hy z hz
  rw [e2]; exact h.pos y a (by rw [← c]; exact hk)
 ·obtain ⟨y,a,b,c,e2,f,g⟩ := hy z hz
  rw [hs,e2,f,b]; exact h.dl y a (by rw [← c]; exact hk)
theorem Sim.data_ (h : Sim F π (DirsX.gk L)) {g' : Gf} {n : Nd} (hn : nodeM F n.ino = some n) {d : ByteArray} (hd : d.size ≤ 4096) (hk : n.kind = 1) (hr : RG (withM F { n with data := d }) π g') : Sim (withM F { n with data := d }) π g' :=
 ⟨Wd.data_ h.wf hn hd hk,hr,h.pb,fun z hz => by
   rw [mem_with (n := { n with data := d }) h.wf.nod (node_mem hn).1 rfl] at hz
   rcases hz with rfl | ⟨hz,_⟩
   ·exact h.small n (node_mem hn).1
   ·exact h.small z hz⟩
theorem fil_same (h : Sim F π (DirsX.gk L)) {ino : Int} (h0 : 0 ≤ ino) (h1 : ino ≤ 4294967295) : filV L ino = match filM F ino with
 | none => (ino0,16)
 | some n => (⟨1,n.links,n.data.size,0⟩,0) := by
 unfold filV
 rw [load_g]
 cases hf : filM F ino with
 | some n =>
   obtain ⟨h2,h3,h4,h5⟩ := fil_some hf
   rw [h.load h2,if_pos ⟨rfl,h3⟩]
   show (inoL π n,(0 : Int)) = _
   unfold inoL
   rw [h3]
   rfl
 | none =>
   rcases fil_none hf with h2 | ⟨n,h2,h3⟩
   ·by_cases h4 : ino = 1
    ·obtain ⟨r,hr,_⟩ := h.wf.root
     rw [h4,hr] at h2
     cases h2
    ·rw [load_no h.rg h.bs h0 h1 h4 h2,if_neg (by rintro ⟨a,_⟩; cases a)]
   ·rw [h.load h2,if_neg (by rintro ⟨_,a⟩; exact h3 a)]
theorem blks_of {g : Gf} (h : RG F π g) {n : Nd} (hn : n ∈ F) : Blks g n.ino (pf (txt n.data)) := fun w hw => by rw [h.blks n hn w hw,blkG_fun]
theorem rng_cat (φ : Nat → Int) (a m k : Nat) : (List.range m).map (fun i => φ (a + i)) ++ (List.range k).map (fun i => φ (a + m + i)) = (List.range (m + k)).map fun i => φ (a + i) := by
 rw [List.range_add,List.map_append,List.map_map]
 congr 1
 exact List.map_congr_left fun i _ => by show φ (a + m + i) = φ (a + (m + i)); rw [Nat.add_assoc]
theorem bfun_part (φ : Nat → Int) (q f m : Nat) (h : f + m ≤ 64) : ((bfun φ q).drop f).take m = (List.range m).map fun i => φ (64 * q + f + i) := by
 refine List.ext_getElem (by rw [List.length_take,List.length_drop,bfun_len,List.length_map,List.length_range]; omega) (fun i h1 h2 => ?_)
 rw [List.length_map,List.length_range] at h2
 rw [List.getElem_take,List.getElem_drop,List.getElem_map,List.getElem_range]
 unfold bfun
 rw [List.getElem_map,List.getElem_range,Nat.add_assoc]
theorem rd_cuts {ino : Int} {φ : Nat → Int} (h : Blks (DirsX.gk L) ino φ) (hb : Byt φ) : ∀ (fu : Nat) {a n : Int},0 ≤ a → a + n ≤ 4096 → n ≤ fu → rdL L ino (cuts fu a n) = (List.range n.toNat).map fun i => φ (a.toNat + i) := by
 intro fu
 induction fu with
 | zero =>
   intro a n a0 h1 h2
   rw [show n.toNat = 0 by omega]
   rfl
 | succ fu ih =>
   intro a n a0 h1 h2
   unfold cuts
   by_cases hn : n ≤ 0
   ·rw [if_pos hn,show n.toNat = 0 by omega]
    rfl
   ·rw [if_neg hn]
    obtain ⟨m,hm⟩ : ∃ m : Nat,min n (64 - a % 64) = m := ⟨(min n (64 - a % 64)).toNat,by omega⟩
    rw [hm]
    have hI := ih (a := a + m) (n := n - m) (by omega) (by omega) (by omega)
    show pcB L ino (a / 64,a % 64,(m : Int)) ++ rdL L ino (cuts fu (a + m) (n - m)) = _
    rw [hI]
    unfold pcB
    dsimp only
    rw [getB_fun h hb (by omega),Int.toNat_natCast,bfun_part _ _ _ _ (by omega),show 64 * (a / 64).toNat + (a % 64).toNat = a.toNat by omega,show (a + (m : Int)).toNat = a.toNat + m by omega,rng_cat]
    congr 2
    omega
theorem rng_txt (d : ByteArray) (a n : Nat) (h : a + n ≤ d.size) : (List.range n).map (fun i => pf (txt d) (a + i)) = ((txt d).drop a).take n := by
 refine List.ext_getElem (by rw [List.length_take,List.length_drop,List.length_map,List.length_range,txt_len]; omega) (fun i h1 h2 => ?_)
 rw [List.length_map,List.length_range] at h1
 rw [List.getElem_take,List.getElem_drop,List.getElem_map,List.getElem_range]
 unfold pf
 rw [List.getD_eq_getElem?_getD,List.getElem?_eq_getElem (by rw [txt_len]; omega)]
 rfl
theorem rd_same (h : RG F π (DirsX.gk L)) {n : Nd} (hn : n ∈ F) (hd : n.data.size ≤ 4096) {a m : Int} (a0 : 0 ≤ a) : rdL L n.ino (cutV a (min m ((n.data.size : Int) - a))) = ((txt n.data).drop a.toNat).take m.toNat := by
 have hb := blks_of h hn
 have hy : Byt (pf (txt n.data)) := byt_pf (txt_bd _)
 unfold cutV
 by_cases hm : min m ((n.data.size : Int) - a) ≤ 0
 ·rw [if_pos (.inr (.inl hm))]
  by_cases h2 : m ≤ 0
  ·rw [show m.toNat = 0 by omega,List.take_zero]; rfl
  ·rw [List.drop_eq_nil_of_le (by rw [txt_len]; omega),List.take_nil]; rfl
 ·rw [if_neg (by omega),rd_cuts hb hy _ a0 (by omega) (by omega),rng_txt _ _ _ (by omega)]
  by_cases h2 : m ≤ (n.data.size : Int) - a
  ·rw [show min m ((n.data.size : Int) - a) = m by omega]
  ·rw [show min m ((n.data.size : Int) - a) = (n.data.size : Int) - a by omega,List.take_of_length_le (by rw [List.length_drop,txt_len]; omega),List.take_of_length_le (by rw [List.length_drop,txt_len]; omega)]
theorem rea_same (h : Sim F π (DirsX.gk L)) {ino : Int} (h0 : 0 ≤ ino) (h1 : ino ≤ 4294967295) (a n : Int) : reaV L ino a n = reaM F ino a n := by
 unfold reaV reaM
 rw [fil_same h h0 h1]
 cases hf : filM F ino with
 | none => rfl
 | some x =>
   obtain ⟨h2,h3,h4,h5⟩ := fil_some hf
   dsimp only
   rw [if_neg (by decide)]
   by_cases hc : a < 0 ∨ n < 0 ∨ 1024 < n
   ·rw [if_pos hc,if_pos hc]
   ·rw [if_neg hc,if_neg hc,← h4,rd_same h.rg h5 (h.wf.data x h5).1 (by omega)]
structure Dit (L : List Pr) (π : Int → Int) (V : Int × List Wrt) (M : Int × Fs) : Prop where
 er : V.1 = M.1
 sim : Sim M.2 π (DirsX.gk (outW L V.2))
 no : V.1 ≠ 0 → V.2 = []
theorem saved {g : Gf} (hr : Rise L) {ino k l z p : Int} : DirsX.gk (doneW L (saveP ino k l z p L)) = setG (DirsX.gk L) ⟨kI ino,nput k l z p,false⟩ := by
 rw [gk_done hr]; rfl
theorem wri_same (h : Sim F π (DirsX.gk L)) (hr : Rise L) {ino : Int} (h0 : 0 ≤ ino) (h1 : ino ≤ 4294967295) (a : Int) (b : List Int) (hb : ∀ x ∈ b,0 ≤ x ∧ x ≤ 255) : Dit L π (wriV L ino a b) (wriM F ino a b) := by
 unfold wriV wriM
 rw [fil_same h h0 h1]
 cases hf : filM F ino with
 | none => exact ⟨rfl,h,fun _ => rfl⟩
 | some x =>
   obtain ⟨h2,h3,h4,h5⟩ := fil_some hf
   have hxd := (h.wf.data x h5).1
   dsimp only
   rw [if_neg (by decide)]
   by_cases c1 : a < 0 ∨ 1024 < b.length
   ·rw [if_pos c1,if_pos c1]; exact ⟨rfl,h,fun _ => rfl⟩
   rw [if_neg c1,if_neg c1]
   by_cases c2 : 4096 - (b.length : Int) < a
   ·rw [if_pos c2,if_pos c2]; exact ⟨rfl,h,fun _ => rfl⟩
   rw [if_neg c2,if_neg c2]
   by_cases c3 : b.length = 0
   ·rw [if_pos c3,if_pos c3]; exact ⟨rfl,h,fun _ => rfl⟩
   rw [if_neg c3,if_neg c3]
   have hB := blks_of h.rg h5
   rw [h4] at hB
   have hW := wrs_blks h0 h1 (b.length : Int).toNat (a := a) (n := b.length) (xs := b) (by omega) (by omega) (by omega) (by omega) hb (byt_pf (txt_bd x.data)) hr hB
   have e1 : cutV a b.length = cuts (b.length : Int).toNat a b.length := by unfold cutV; rw [if_neg (by omega)]
   rw [e1]
   refine ⟨rfl,?_,fun h => absurd rfl h⟩
   show Sim _ π (DirsX.gk (outW L _))
   rw [out_app]
   have hr2 := rise_out (wrPs ino b (cuts (b.length : Int).toNat a b.length)) hr
   obtain ⟨L2,hL2⟩ : ∃ L2,outW L (wrPs ino b (cuts (b.length : Int).toNat a b.length)) = L2 := ⟨_,rfl⟩
   rw [hL2] at hW hr2 ⊢
   show Sim _ π (DirsX.gk (doneW L2 (saveP ino 1 x.links (max (x.data.size : Int) (a + b.length)) 0 L2)))
   rw [saved (g := DirsX.gk L) hr2]
   have hsz : ((wrD x.data a.toNat b).size : Int) = max (x.data.size : Int) (a + b.length) := by rw [wrD_size]; omega
   refine Sim.data_ h (by rw [h4]; exact h2) (by omega) h3 (RG.data_ h.rg h.bs (n := x) (n' := { x with data := wrD x.data a.toNat b }) (by rw [h4]; exact h2) rfl rfl ?_ (fun w hw => ?_) (fun k k1 k2 => ?_))
   ·rw [h4,setG_same]
    unfold inoW
    dsimp only
    rw [h3,hsz]
    rfl
   ·rw [h4,setG_ne _ (p := ⟨kI ino,_,false⟩) (kID h0 h1 h0 h1 hw).symm,hW.1 w hw,blkG_fun,wrD_fun _ _ hb]
   ·rw [h4] at k1 k2
    rw [setG_ne _ (p := ⟨kI ino,_,false⟩) k1]
    exact hW.2 k k2
theorem key_D (h : RG F π (DirsX.gk L)) (b : Bs F) (hr : Rise L) {ino z : Int} (h0 : 0 ≤ ino) (h1 : ino ≤ 4294967295) {k : ByteArray} (hk : ∀ w,0 ≤ w ∧ w ≤ 65535 → k ≠ kD ino w) : ∀ p ∈ L,p.key = k → blkF ino z p = false := fun p hp e => by
 unfold blkF
 have hg : DirsX.gk L k ≠ none := by
  unfold DirsX.gk
  rw [(get_iff hr).2 ⟨hp,e⟩]; simp
 rw [e]
 rcases h.keys k hg with ⟨n,h3,h4⟩ | ⟨n,h3,e3,h4,h5⟩ | ⟨n,h3,w,h4,h5,h6⟩
 ·have hb := b.ino n h3
  rw [h4,sp_I n.ino (by omega) hb.2]; rfl
 ·have hb := b.ino n h3
  have hn := b.name n h3 e3 h4
  rw [h5,sp_E n.ino e3.name (by omega) hb.2 hn.1 hn.2]; rfl
 ·have hb := b.ino n h3
  rw [h5,sp_D n.ino w (by omega) hb.2 h4.1 h4.2]
  have : n.ino ≠ ino := fun e4 => hk w h4 (by rw [h5,e4])
  simp [this]
theorem tru_out : ∀ (ps : List Wrt) (L : List Pr),truV.outV L ps = outW L ps
 | [],L => rfl
 | p :: ps,L => tru_out ps _
theorem tru_same (h : Sim F π (DirsX.gk L)) (hr : Rise L) {ino : Int} (h0 : 0 ≤ ino) (h1 : ino ≤ 4294967295) (z : Int) : Dit L π (truV L ino z) (truM F ino z) := by
 unfold truV truM
 rw [fil_same h h0 h1]
 cases hf : filM F ino with
 | none => exact ⟨rfl,h,fun _ => rfl⟩
 | some x =>
   obtain ⟨h2,h3,h4,h5⟩ := fil_some hf
   have hxd := (h.wf.data x h5).1
   dsimp only
   rw [if_neg (by decide)]
   by_cases c1 : z < 0
   ·rw [if_pos c1,if_pos c1]; exact ⟨rfl,h,fun _ => rfl⟩
   rw [if_neg c1,if_neg c1]
   by_cases c2 : 4096 < z
   ·rw [if_pos c2,if_pos c2]; exact ⟨rfl,h,fun _ => rfl⟩
   rw [if_neg c2,if_neg c2,tru_out]
   have hB := blks_of h.rg h5
   rw [h4] at hB
   have hy : Byt (pf (txt x.data)) := byt_pf (txt_bd _)
   have hn0 : 0 ≤ blkN z := by unfold blkN; split <;> omega
   have hD := drop_blks hB hr h0 h1 hn0
   have hO : ∀ k,(∀ w,0 ≤ w ∧ w ≤ 65535 → k ≠ kD ino w) → DirsX.gk (outW L (drpPs L ino (blkN z))) k = DirsX.gk L k := fun k hk => drop_off hr (key_D h.rg h.bs hr h0 h1 hk)
   have hr2 := rise_out (drpPs L ino (blkN z)) hr
   refine ⟨rfl,?_,fun h => absurd rfl h⟩
   show Sim _ π (DirsX.gk (outW L _))
   rw [out_app,out_app]
   obtain ⟨L2,hL2⟩ : ∃ L2,outW L (drpPs L ino (blkN z)) = L2 := ⟨_,rfl⟩
   rw [hL2] at hD hO hr2 ⊢
   have hS := sho_blks hD (fun i => by dsimp only; split; exact hy i; exact ⟨by decide,by decide⟩) hr2 h0 h1 (z := z) (by omega) (by omega)
   have hSO : ∀ k,(∀ w,0 ≤ w ∧ w ≤ 65535 → k ≠ kD ino w) → DirsX.gk (outW L2 (shoPs L2 ino z)) k = DirsX.gk L2 k := fun k hk => sho_off hr2 (by omega) hk
   have hr3 := rise_out (shoPs L2 ino z) hr2
   obtain ⟨L3,hL3⟩ : ∃ L3,outW L2 (shoPs L2 ino z) = L3 := ⟨_,rfl⟩
   rw [hL3] at hS hSO hr3 ⊢
   show Sim _ π (DirsX.gk (doneW L3 (saveP ino 1 x.links z 0 L3)))
   rw [saved (g := DirsX.gk L) hr3]
   have hsz : ((truD x.data z.toNat).size : Int) = z := by rw [truD_size]; omega
   refine Sim.data_ h (by rw [h4]; exact h2) (by omega) h3 (RG.data_ h.rg h.bs (n := x) (n' := { x with data := truD x.data z.toNat }) (by rw [h4]; exact h2) rfl rfl ?_ (fun w hw => ?_) (fun k k1 k2 => ?_))
   ·rw [h4,setG_same]
    unfold inoW
    dsimp only
    rw [h3,hsz]
    rfl
   ·rw [h4,setG_ne _ (p := ⟨kI ino,_,false⟩) (kID h0 h1 h0 h1 hw).symm,hS w hw,blkG_fun,truD_fun]
    refine bG_congr fun i hi => ?_
    have hq : blkN z = (z + 63) / 64 := by unfold blkN; split <;> omega
    by_cases e1 : 64 * w.toNat + i < z.toNat
    ·rw [if_neg (by omega),if_pos (by omega),if_pos e1]
    ·rw [if_neg e1]
     split
     ·rfl
     ·rw [if_neg (by omega)]
   ·rw [h4] at k1 k2
    rw [setG_ne _ (p := ⟨kI ino,_,false⟩) k1]
    rw [hSO k k2]
    exact hO k k2
end
end Go.Proofs.YtogdjbhjgbnicaaGreatDoor.FileO
namespace Go.Proofs.YtogdjbhjgbnicaaGreatDoor.OpsYa
open Go.RowKit
open Byte KeysM TreeM ViewM ViewKm NamesL WalkM DirsV DirsX Lst Chg TreeL ViewL WalkL Vat DirsK DirsKa DirsKc FileV OpsR OpsE OpsI OpsS OpsT OpsTa OpsM OpsN OpsP
open OpsW (wrtD inoD_er)
open Own hiding keeps lower
variable {Rep : RepT}
structure Ap (Rep : RepT) (k k2 : Nat) (w : World) (g : Nat) (v : Value) (g2 : Nat) (v2 : Value) (hs hs2 : List Int) (s t : Vs) (S D S2 D2 : Nat → Prop) : Prop where
 a : Pk Rep k w g v hs s S D
 b : Pk Rep k2 w g2 v2 hs2 t S2 D2
 n1 : ∀ q,S q → ¬ D2 q
 n2 : ∀ q,S2 q → ¬ D q
 g1 : ¬ D2 g
 g2n : ¬ D g2
 gg : g ≠ g2
section
variable {k k2 k' : Nat} {w w' : World} {g g2 : Nat} {v v2 : Value} {hs hs2 hs' : List Int} {s t s' : Vs} {S D S2 D2 S' D' : Nat → Prop}
theorem Pk.below_ (hV : Stays Rep) (h : Pk Rep k w g v hs s S D) (hb : Below w.heap.size w w') : Pk Rep k w' g v hs s S D := ⟨h.dst.below hV hb,h.good,h.base,h.rd,h.rg,h.mx.below hb,h.gx⟩
theorem Ap.swap (h : Ap Rep k k2 w g v g2 v2 hs hs2 s t S D S2 D2) : Ap Rep k2 k w g2 v2 g v hs2 hs t s S2 D2 S D := ⟨h.b,h.a,h.n2,h.n1,h.g2n,h.g1,fun e => h.gg e.symm⟩
theorem Ap.below (hV : Stays Rep) (h : Ap Rep k k2 w g v g2 v2 hs hs2 s t S D S2 D2) (hb : Below w.heap.size w w') : Ap Rep k k2 w' g v g2 v2 hs hs2 s t S D S2 D2 := ⟨Pk.below_ hV h.a hb,Pk.below_ hV h.b hb,h.n1,h.n2,h.g1,h.g2n,h.gg⟩
theorem Ap.first (hV : Stays Rep) (h : Ap Rep k k2 w g v g2 v2 hs hs2 s t S D S2 D2) (hp : Pk Rep k' w' g v hs' s' S' D') (st : Dstp S D S' D' g w w') : Ap Rep k' k2 w' g v g2 v2 hs' hs2 s' t S' D' S2 D2 := by
 have lt2 := hV.lt h.b.dst.rep
 have gl := h.b.dst.dsk.blk.lt
 refine ⟨hp,⟨⟨hV.stay h.b.dst.rep st.chg (fun q e hd => ?_) st.kept,Dsk.chg h.b.dst.dsk st.chg (fun e => ?_),h.b.dst.ng⟩,h.b.good,h.b.base,h.b.rd,h.b.rg,⟨?_,h.b.mx.2⟩,h.b.gx⟩,fun q hq hd => ?_,fun q hq hd => ?_,h.g1,fun hd => ?_,h.gg⟩
 ·rcases e with e | e
  ·exact h.n1 q e hd
  ·have e' : q = g := e
   rw [e'] at hd
   exact h.g1 hd
 ·rcases e with e | e
  ·exact h.g2n (hV.sub h.a.dst.rep _ e)
  ·exact h.gg e.symm
 ·obtain ⟨m,hm⟩ := h.a.mx.1
  exact ⟨m,st.chg.cell hm (fun e => by
   rcases e with e | e
   ·exact h.a.mx.2 e
   ·exact h.a.gx e.symm)⟩
 ·rcases st.own q hq with h1 | h1
  ·exact h.n1 q h1 hd
  ·have := lt2 q hd
   omega
 ·rcases st.dep q hd with h1 | h1
  ·exact h.n2 q hq h1
  ·have := lt2 q (hV.sub h.b.dst.rep q hq)
   omega
 ·rcases st.dep g2 hd with h1 | h1
  ·exact h.g2n h1
  ·omega
end
end Go.Proofs.YtogdjbhjgbnicaaGreatDoor.OpsYa
namespace Go.Proofs.YtogdjbhjgbnicaaGreatDoor.OpsBs
open Byte PackM KeysM TreeM ViewM ViewKm NamesM WalkM WalkF WalkKm DirsM DirsV DirsW DirsX
open DirsY
open DirsS
open NodeM hiding gk
structure Ws (F : Fs) (N M K : Nat) : Prop where
 nod : Nod F
 ino : ∀ n ∈ F,1 ≤ n.ino ∧ n.ino ≤ 4294967295
 kind : ∀ n ∈ F,n.kind = 2 ∨ n.kind = 1
 data : ∀ n ∈ F,n.data.size ≤ 4096 ∧ (n.kind = 2 → n.data = NE)
 ord : ∀ n ∈ F,Ord n.ents
 name : ∀ n ∈ F,∀ e ∈ n.ents,nameOk e.name = true
 some_ : ∀ n ∈ F,∀ e ∈ n.ents,1 ≤ e.ino ∧ e.ino ≤ 4294967295
 links : ∀ n ∈ F,-(K : Int) ≤ n.links ∧ n.links ≤ K
 len : F.length ≤ N
 tot_ : tot F ≤ M
section
variable {F : Fs} {N M K : Nat}
theorem Ws.bs (h : Ws F N M K) : Bs F := ⟨h.nod,h.ino,h.ord,fun n hn e he => good_of (h.name n hn e he)⟩
theorem Ws.small (h : Ws F N M K) {n : Nd} (hn : n ∈ F) : n.ents.length ≤ M := by
 have := S_le hn (fun n => n.ents.length)
 have := h.tot_
 unfold tot at this
 omega
theorem Ws.fd (h : Ws F N M K) {n : Nd} (hn : n ∈ F) : n.data.size ≤ 4096 ∧ (n.kind = 2 → n.data = NE) := by
 exact h.data n hn
theorem Ws.more (h : Ws F N M K) {N' M' K' : Nat} (h1 : N ≤ N') (h2 : M ≤ M') (h3 : K ≤ K') : Ws F N' M' K' :=
 ⟨h.nod,h.ino,h.kind,h.data,h.ord,h.name,h.some_,fun n hn => by have := h.links n hn; omega,Nat.le_trans h.len h1,Nat.le_trans h.tot_ h2⟩
theorem Ws.put (h : Ws F N M K) {n m : Nd} {M' K' : Nat} (hm : m ∈ F) (hi : m.ino = n.ino) (h1 : n.kind = m.kind) (h2 : n.data = m.data) (h3 : Ord n.ents) (h4 : ∀ e ∈ n.ents,nameOk e.name = true ∧ 1 ≤ e.ino ∧ e.ino ≤ 4294967295) (h5 : -(K' : Int) ≤ n.links ∧ n.links ≤ K') (hK : K ≤ K') (h6 : n.ents.length + M ≤ m.ents.length + M') : Ws (withM F n) N M' K' := by
 have hmem := fun z => mem_with (x := z) h.nod hm hi
 refine ⟨nod_with h.nod hm hi,fun z hz => ?_,fun z hz => ?_,fun z hz => ?_,fun z hz => ?_,fun z hz e he => ?_,fun z hz e he => ?_,fun z hz => ?_,?_,?_⟩
 ·rcases (hmem z).1 hz with rfl | hz
  ·rw [← hi]; exact h.ino m hm
  ·exact h.ino z hz.1
 ·rcases (hmem z).1 hz with rfl | hz
  ·rw [h1]; exact h.kind m hm
  ·exact h.kind z hz.1
 ·rcases (hmem z).1 hz with rfl | hz
  ·rw [h2,h1]; exact h.data m hm
  ·exact h.data z hz.1
 ·rcases (hmem z).1 hz with rfl | hz
  ·exact h3
  ·exact h.ord z hz.1
 ·rcases (hmem z).1 hz with rfl | hz
  ·exact (h4 e he).1
  ·exact h.name z hz.1 e he
 ·rcases (hmem z).1 hz with rfl | hz
  ·exact (h4 e he).2
  ·exact h.some_ z hz.1 e he
 ·rcases (hmem z).1 hz with rfl | hz
  ·exact h5
  ·have := h.links z hz.1; omega
 ·rw [len_with h.nod hm hi]; exact h.len
 ·have h7 := S_with h.nod hm hi (fun n => n.ents.length)
  have h8 := h.tot_
  unfold tot at h8 ⊢
  omega
theorem Ws.linked (h : Ws F N M K) {i y : Int} {n : Nd} (hn : nodeM F i = some n) (hy : -1 ≤ y ∧ y ≤ 1) : Ws (linkedM F i y) N M (K + 1) := by
 have hm := node_mem hn
 rw [linked_eq hn]
 have h1 := h.links n hm.1
 refine h.put (n := { n with links := n.links + y }) hm.1 rfl rfl rfl (h.ord n hm.1) (fun e he => ⟨h.name n hm.1 e he,h.some_ n hm.1 e he⟩) ?_ (Nat.le_succ _) (Nat.le_refl _)
 show -((K + 1 : Nat) : Int) ≤ n.links + y ∧ n.links + y ≤ ((K + 1 : Nat) : Int)
 omega
theorem Ws.named (h : Ws F N M K) {d i : Int} {nm : ByteArray} {n : Nd} (hn : nodeM F d = some n) (hi : i ≠ 0 → nameOk nm = true ∧ 1 ≤ i ∧ i ≤ 4294967295) : Ws (namedM F d nm i) N (M + if i = 0 then 0 else 1) K := by
 have hm := node_mem hn
 have ho := h.ord n hm.1
 rw [named_eq hn]
 refine h.put (n := { n with ents := insE nm i (decide (i = 0)) n.ents }) hm.1 rfl rfl rfl (ord_ins ho nm i) (fun e he => ?_) (h.links n hm.1) (Nat.le_refl _) ?_
 ·rcases (mem_ins ho).1 he with ⟨h1,rfl⟩ | ⟨h1,_⟩
  ·exact hi h1
  ·exact ⟨h.name n hm.1 e h1,h.some_ n hm.1 e h1⟩
 ·have := len_ins nm i ho
  show (insE nm i (decide (i = 0)) n.ents).length + M ≤ n.ents.length + _
  omega
theorem Ws.wo (h : Ws F N M K) (i : Int) : Ws (withoutM F i) N M K := by
 refine ⟨nod_wo h.nod i,fun z hz => h.ino z (mem_wo.1 hz).1,fun z hz => h.kind z (mem_wo.1 hz).1,fun z hz => h.data z (mem_wo.1 hz).1,fun z hz => h.ord z (mem_wo.1 hz).1,fun z hz => h.name z (mem_wo.1 hz).1,fun z hz => h.some_ z (mem_wo.1 hz).1,fun z hz => h.links z (mem_wo.1 hz).1,Nat.le_trans (List.length_filter_le _ _) h.len,?_⟩
 refine Nat.le_trans ?_ h.tot_
 unfold tot withoutM
 generalize F = l
 induction l with
 | nil => exact Nat.le_refl _
 | cons x r ih =>
   rw [List.filter_cons,S_cons]
   split
   ·rw [S_cons]; omega
   ·omega
theorem Ws.new_ (h : Ws F N M K) {k i : Int} (hi : nodeM F i = none) (h1 : 1 ≤ i) (h2 : i ≤ 4294967295) (hK : 2 ≤ K) : Ws (withM F (newNd k i)) (N + 1) M K := by
 have hne : ∀ x ∈ F,x.ino ≠ (newNd k i).ino := by rw [new_ino]; exact node_none hi
 have hmem := fun z => mem_new (x := z) hne
 have hk : ((newNd k i).kind = 2 ∧ (newNd k i).links = 2) ∨ ((newNd k i).kind = 1 ∧ (newNd k i).links = 1) := by
  unfold newNd
  split
  ·exact .inr ⟨rfl,rfl⟩
  ·exact .inl ⟨rfl,rfl⟩
 have hdata : (newNd k i).data = NE := by unfold newNd; split <;> rfl
 refine ⟨nod_new h.nod hne,fun z hz => ?_,fun z hz => ?_,fun z hz => ?_,fun z hz => ?_,fun z hz e he => ?_,fun z hz e he => ?_,fun z hz => ?_,?_,?_⟩
 ·rcases (hmem z).1 hz with rfl | hz
  ·rw [new_ino]; exact ⟨h1,h2⟩
  ·exact h.ino z hz
 ·rcases (hmem z).1 hz with rfl | hz
  ·rcases hk with h | h
   ·exact .inl h.1
   ·exact .inr h.1
  ·exact h.kind z hz
 ·rcases (hmem z).1 hz with rfl | hz
  ·exact ⟨by rw [hdata]; decide,fun _ => hdata⟩
  ·exact h.data z hz
 ·rcases (hmem z).1 hz with rfl | hz
  ·rw [new_ents]; exact List.Pairwise.nil
  ·exact h.ord z hz
 ·rcases (hmem z).1 hz with rfl | hz
  ·rw [new_ents] at he; cases he
  ·exact h.name z hz e he
 ·rcases (hmem z).1 hz with rfl | hz
  ·rw [new_ents] at he; cases he
  ·exact h.some_ z hz e he
 ·rcases (hmem z).1 hz with rfl | hz
  ·rcases hk with h | h <;> omega
  ·exact h.links z hz
 ·rw [with_new hne,List.length_append]
  have := h.len
  simp
  omega
 ·have h3 := S_new hne (fun n => n.ents.length)
  have h4 := h.tot_
  rw [new_ents] at h3
  simp only [List.length_nil] at h3
  unfold tot at h4 ⊢
  omega
theorem Ws.tight (h : Ws F N M K) {π : Int → Int} (w : Wf F π) (hM : M ≤ 900) : Ws F N M 2000 :=
 ⟨h.nod,h.ino,h.kind,h.data,h.ord,h.name,h.some_,fun n hn => by
   rcases w.kind n hn with h1 | h1
   ·have h2 := w.dl n hn h1
    have h3 : subs F n.ents ≤ n.ents.length := List.countP_le_length
    have h4 := h.small hn
    have h5 : zro n.ino = 0 := rfl
    omega
   ·have := w.pos n hn h1.1
    omega,h.len,h.tot_⟩
theorem Ws.dat (h : Ws F N M K) {n : Nd} (hn : nodeM F n.ino = some n) {d : ByteArray} (hd : d.size ≤ 4096) (hk : n.kind = 1) : Ws (withM F { n with data := d }) N M K := by
 have hm := (node_mem hn).1
 have hmem := fun z => mem_with (x := z) (n := { n with data := d }) h.nod hm rfl
 have hy : ∀ z ∈ withM F { n with data := d },∃ y ∈ F,z.ino = y.ino ∧ z.kind = y.kind ∧ z.links = y.links ∧ z.ents = y.ents := fun z hz => by
  rcases (hmem z).1 hz with rfl | hz
  ·exact ⟨n,hm,rfl,rfl,rfl,rfl⟩
  ·exact ⟨z,hz.1,rfl,rfl,rfl,rfl⟩
 refine ⟨nod_with h.nod hm rfl,fun z hz => ?_,fun z hz => ?_,fun z hz => ?_,fun z hz => ?_,fun z hz e he => ?_,fun z hz e he => ?_,fun z hz => ?_,?_,?_⟩
 ·obtain ⟨y,a,b,c,f,g⟩ := hy z hz
  rw [b]; exact h.ino y a
 ·obtain ⟨y,a,b,c,f,g⟩ := hy z hz
  rw [c]; exact h.kind y a
 ·rcases (hmem z).1 hz with rfl | hz
  ·exact ⟨hd,fun q => absurd (show n.kind = 2 from q) (by omega)⟩
  ·exact h.data z hz.1
 ·obtain ⟨y,a,b,c,f,g⟩ := hy z hz
  rw [g]; exact h.ord y a
 ·obtain ⟨y,a,b,c,f,g⟩ := hy z hz
  rw [g] at he; exact h.name y a e he
 ·obtain ⟨y,a,b,c,f,g⟩ := hy z hz
  rw [g] at he; exact h.some_ y a e he
 ·obtain ⟨y,a,b,c,f,g⟩ := hy z hz
  rw [f]; exact h.links y a
 ·rw [len_with (n := { n with data := d }) h.nod hm rfl]; exact h.len
 ·have h7 := S_with (n := { n with data := d }) h.nod hm rfl (fun n => n.ents.length)
  have h8 := h.tot_
  unfold tot at h8 ⊢
  dsimp only at h7
  omega
end
end Go.Proofs.YtogdjbhjgbnicaaGreatDoor.OpsBs
namespace Go.Proofs.YtogdjbhjgbnicaaGreatDoor.OpsBz
open Byte PackM KeysM TreeM ViewM ViewKm NamesM WalkM WalkF WalkKm DirsM DirsV DirsW DirsX DirsY OpsBs
open NodeM hiding gk
open DirsS
structure St (F : Fs) (π : Int → Int) (L : List Pr) (k : Nat) : Prop where
 sim : Sim F π (DirsX.gk L)
 ws : Ws F (k + 1) k 2000
 hk : k ≤ 900
 rise : Rise L
 gone : ∀ p ∈ L,p.gone = false
structure Did (L : List Pr) (V : Int × List Wrt) (M : Int × Fs) (k : Nat) : Prop where
 er : V.1 = M.1
 st : ∃ π',St M.2 π' (outW L V.2) k
 no : V.1 ≠ 0 → V.2 = []
section
variable {F : Fs} {π : Int → Int} {L : List Pr} {k : Nat}
theorem St.of {F : Fs} {π : Int → Int} {L : List Pr} {k N M K : Nat} (wf : Wf F π) (rg : RG F π (DirsX.gk L)) (pb : ∀ j,0 ≤ π j ∧ π j ≤ 4294967295) (ws : Ws F N M K) (h1 : N ≤ k + 1) (h2 : M ≤ k) (hk : k ≤ 900) (hr : Rise L) (hg : ∀ p ∈ L,p.gone = false) : St F π L k := by
 have w := (ws.tight wf (by omega)).more h1 h2 (Nat.le_refl _)
 exact ⟨⟨wf,rg,pb,fun n hn => by have := w.small hn; omega⟩,w,hk,hr,hg⟩
theorem St.more (h : St F π L k) {k' : Nat} (h1 : k ≤ k') (h2 : k' ≤ 900) : St F π L k' := ⟨h.sim,h.ws.more (by omega) h1 (Nat.le_refl _),h2,h.rise,h.gone⟩
theorem Did.err (h : St F π L k) (hk : k + 1 ≤ 900) {e : Int} : Did L (e,[]) (e,F) (k + 1) := ⟨rfl,⟨π,h.more (Nat.le_succ _) hk⟩,fun _ => rfl⟩
def Eqv (A B : Fs) : Prop := ∀ j,nodeM A j = nodeM B j
theorem Eqv.mem {A B : Fs} (h : Eqv A B) (ha : Nod A) (hb : Nod B) (z : Nd) : z ∈ A ↔ z ∈ B := mem_of_node ha hb h z
theorem rg_eqv {A B : Fs} {g : Gf} (h : RG A π g) (e : Eqv A B) (ha : Nod A) (hb : Nod B) : RG B π g := h.congr fun z => (e.mem ha hb z).symm
theorem named_at {A : Fs} (h : Nod A) {d e i : Int} {nm : ByteArray} {n m : Nd} (hd : nodeM A d = some n) (hm : nodeM A e = some m) : ∃ m',nodeM (namedM A d nm i) e = some m' ∧ m'.kind = m.kind ∧ m'.links = m.links ∧ m'.ino = m.ino ∧ (e ≠ d → m' = m) ∧ (e = d → m'.ents = insE nm i (decide (i = 0)) m.ents) := by
 rw [node_named h hd]
 by_cases he : e = d
 ·rw [if_pos he]
  subst he
  rw [hd] at hm
  injection hm with hm
  subst hm
  exact ⟨_,rfl,rfl,rfl,rfl,fun h => absurd rfl h,fun _ => rfl⟩
 ·rw [if_neg he]
  exact ⟨m,hm,rfl,rfl,rfl,fun _ => rfl,fun h => absurd h he⟩
theorem linked_at {A : Fs} (h : Nod A) {d e y : Int} {n m : Nd} (hd : nodeM A d = some n) (hm : nodeM A e = some m) : ∃ m',nodeM (linkedM A d y) e = some m' ∧ m'.kind = m.kind ∧ m'.links = (if e = d then m.links + y else m.links) ∧ m'.ino = m.ino ∧ m'.ents = m.ents := by
 rw [node_linked h hd]
 by_cases he : e = d
 ·rw [if_pos he,if_pos he]
  subst he
  rw [hd] at hm
  injection hm with hm
  subst hm
  exact ⟨_,rfl,rfl,rfl,rfl,rfl⟩
 ·rw [if_neg he,if_neg he]
  exact ⟨m,hm,rfl,rfl,rfl,rfl⟩
theorem wo_at {A : Fs} (h : Nod A) {c e : Int} {m : Nd} (hm : nodeM A e = some m) (hc : e ≠ c) : nodeM (withoutM A c) e = some m := by rw [node_wo h,if_neg hc]; exact hm
theorem eqv_ln {A : Fs} (h : Nod A) {d e i y : Int} {nm : ByteArray} {n m : Nd} (hd : nodeM A d = some n) (he : nodeM A e = some m) : Eqv (linkedM (namedM A d nm i) e y) (namedM (linkedM A e y) d nm i) := fun j => by
 have h1 := nod_named (i := i) (nm := nm) h hd
 have h2 := nod_linked (by_ := y) h he
 by_cases hde : d = e
 ·subst hde
  rw [hd] at he
  injection he with he
  subst he
  have a1 : nodeM (namedM A d nm i) d = some { n with ents := insE nm i (decide (i = 0)) n.ents } := by rw [node_named h hd,if_pos rfl]
  have a2 : nodeM (linkedM A d y) d = some { n with links := n.links + y } := by rw [node_linked h hd,if_pos rfl]
  rw [node_linked h1 a1,node_named h2 a2,node_named h hd,node_linked h hd]
  by_cases hj : j = d
  ·rw [if_pos hj,if_pos hj]
  ·rw [if_neg hj,if_neg hj,if_neg hj,if_neg hj]
 ·have a1 : nodeM (namedM A d nm i) e = some m := by rw [node_named h hd,if_neg (fun x => hde x.symm)]; exact he
  have a2 : nodeM (linkedM A e y) d = some n := by rw [node_linked h he,if_neg hde]; exact hd
  rw [node_linked h1 a1,node_named h2 a2,node_named h hd,node_linked h he]
  by_cases hj : j = d
  ·rw [if_pos hj,if_pos hj,if_neg (fun x => hde (by rw [← hj,x]))]
  ·rw [if_neg hj,if_neg hj]
theorem eqv_wn {A : Fs} (h : Nod A) {c d i : Int} {nm : ByteArray} {n : Nd} (hd : nodeM A d = some n) (hc : d ≠ c) : Eqv (withoutM (namedM A d nm i) c) (namedM (withoutM A c) d nm i) := fun j => by
 have h1 := nod_named (i := i) (nm := nm) h hd
 rw [node_wo h1,node_named (nod_wo h c) (wo_at h hd hc),node_named h hd,node_wo h]
 by_cases hj : j = c
 ·rw [if_pos hj,if_neg (fun x => hc (by rw [← x,hj])),if_pos hj]
 ·rw [if_neg hj,if_neg hj]
theorem eqv_link {A B : Fs} (ha : Nod A) (hb : Nod B) (e : Eqv A B) {i y : Int} {n : Nd} (hn : nodeM A i = some n) : Eqv (linkedM A i y) (linkedM B i y) := fun j => by
 rw [node_linked ha hn,node_linked hb (by rw [← e]; exact hn),e]
theorem eqv_back {A : Fs} (h : Nod A) {d : Int} {n : Nd} (hd : nodeM A d = some n) : Eqv (linkedM (linkedM A d (-1)) d 1) A := fun j => by
 have a1 : nodeM (linkedM A d (-1)) d = some { n with links := n.links + -1 } := by rw [node_linked h hd,if_pos rfl]
 rw [node_linked (nod_linked h hd) a1,node_linked h hd]
 by_cases hj : j = d
 ·rw [if_pos hj,hj,hd]
  have e : n.links + -1 + 1 = n.links := by omega
  show some (⟨n.ino,n.kind,n.links + -1 + 1,n.data,n.ents⟩ : Nd) = _
  rw [e]
 ·rw [if_neg hj,if_neg hj]
theorem no_entry (h : St F π L k) {d : Int} {n : Nd} (hn : nodeM F d = some n) {nm : ByteArray} (h0 : entryM n nm = 0) : ∀ e ∈ n.ents,e.name ≠ nm := fun e he en => by
 have h1 := node_mem hn
 have h2 := entry_some (h.ws.ord n h1.1) he
 rw [en,h0] at h2
 have := (h.ws.some_ n h1.1 e he).1
 omega
structure Sit (F : Fs) (s : Spt) (d n : Nd) (e : En) : Prop where
 dir : nodeM F s.dir = some d
 dk : d.kind = 2
 nm : nameOk s.name = true
 me : e ∈ d.ents
 en : e.name = s.name
 ei : e.ino = s.ino
 node : nodeM F s.ino = some n
 i0 : 1 ≤ s.ino
 i1 : s.ino ≤ 4294967295
 i2 : s.ino ≠ 1
theorem sit_of (h : St F π L k) {s : Spt} (hl : Led F s) (h0 : s.ino ≠ 0) (h1 : s.ino ≠ 1) : ∃ d n e,Sit F s d n e := by
 rcases hl.way with ⟨_,_,h2⟩ | ⟨h2,d,h3,h4,h5⟩
 ·exact absurd h2 h1
 ·obtain ⟨n,hn⟩ := hl.at_.resolve_left h0
  have hm := node_mem h3
  rcases entry_ways d s.name with ⟨e,h6,h7,h8⟩ | ⟨_,h8⟩
  ·have h9 := h.ws.some_ d hm.1 e h6
   rw [← h8,h5] at h9
   exact ⟨d,n,e,h3,h4,h2,h6,h7,by rw [← h8,h5],hn,h9.1,h9.2,h1⟩
  ·rw [h5] at h8
   exact absurd h8 h0
theorem spot_k (h : St F π L k) {s : Spt} {n : Nd} (hn : nodeM F s.ino = some n) : (spotOf F π s).node = inoL π n := by
 unfold spotOf
 exact inoAt_some hn
theorem make_did (h : St F π L k) (hk : k + 1 ≤ 900) (path : ByteArray) {kind ino : Int} (h1 : 2 ≤ ino) (h2 : ino ≤ 4294967295) (hi : nodeM F ino = none) : Did L (makV L path kind ino) (makeM F path kind ino) (k + 1) := by
 obtain ⟨hf,hled⟩ := h.sim.find path
 unfold makV makeM
 rw [hf]
 obtain ⟨⟨s,er⟩,hR⟩ : ∃ R,fndM F path = R := ⟨_,rfl⟩
 rw [hR] at hled ⊢
 dsimp only at hled ⊢
 by_cases he : er ≠ 0
 ·rw [if_pos he,if_pos he]; exact Did.err h hk
 rw [if_neg he,if_neg he]
 have hsi : (spotOf F π s).ino = s.ino := rfl
 have hsd : (spotOf F π s).dir = s.dir := rfl
 have hsn : (spotOf F π s).name = s.name := rfl
 rw [hsi,hsd,hsn]
 by_cases h0 : s.ino ≠ 0
 ·rw [if_pos h0,if_pos h0]; exact Did.err h hk
 rw [if_neg h0,if_neg h0]
 have h00 : s.ino = 0 := by omega
 have led := hled (by omega)
 obtain ⟨hnm,d,hd,hdk,hde⟩ := led.way.resolve_left (fun h => by omega)
 rw [h00] at hde
 have hno := no_entry h hd hde
 have hdm := node_mem hd
 have hdi := h.ws.ino d hdm.1
 rw [hdm.2] at hdi
 have hdne : s.dir ≠ ino := fun e => by rw [e,hi] at hd; cases hd
 have hi' : nodeM F (newNd kind ino).ino = none := by rw [new_ino]; exact hi
 have w1 := h.sim.wf.new_ (k := kind) hi (by omega) h1 h2
 have s1 := h.ws.new_ (k := kind) hi (by omega) h2 (by omega)
 have hN1 := fun j => node_new h.ws.nod hi' j
 have hd1 : nodeM (withM F (newNd kind ino)) s.dir = some d := by rw [hN1,new_ino,if_neg hdne]; exact hd
 have hn1 : nodeM (withM F (newNd kind ino)) ino = some (newNd kind ino) := by rw [hN1,new_ino,if_pos rfl]
 have hino0 : ino ≠ 0 := by omega
 by_cases hk1 : kind = 1
 ·subst hk1
  rw [if_pos rfl]
  have e1 : makeAt F s 1 ino = namedM (withM F (newNd 1 ino)) s.dir s.name ino := rfl
  rw [e1]
  refine ⟨rfl,⟨π,?_⟩,fun h => absurd rfl h⟩
  have w2 := w1.ins hd1 hdk hno hnm (by omega) h2 hn1 (.inl ⟨by show (1 : Int) ≠ 2; decide,rfl⟩)
  have w3 := w2.eq (δ' := zro) (ε' := zro) (fun j => by
   unfold upd zro
   by_cases hj : j = ino
   ·rw [if_pos hj,if_pos rfl]; rfl
   ·rw [if_neg hj,if_neg hj]) (fun j => by
   rw [if_neg (show ¬ (newNd 1 ino).kind = 2 by show ¬ (1 : Int) = 2; decide)]
   unfold upd zro
   split <;> rfl)
  have r1 := rg_new (n := newNd 1 ino) h.sim.rg h.ws.bs h.rise hi' (new_ents _ _) (new_data _ _) (by rw [new_ino]; omega) (by rw [new_ino]; exact h2) (k := 1) (l := 1) (z := 0) (p := 0) rfl
  rw [new_ino] at r1
  have r2 := rg_hang r1 s1.bs (rise_done h.rise _) hd1 (good_of hnm) hino0
  exact St.of w3 r2 h.sim.pb (s1.named (i := ino) hd1 (fun _ => ⟨hnm,by omega,h2⟩)) (by omega) (by rw [if_neg hino0]; omega) hk (rise_out _ h.rise) (gone_out _ h.gone)
 ·rw [if_neg hk1]
  have e1 : makeAt F s kind ino = namedM (linkedM (withM F (newNd kind ino)) s.dir 1) s.dir s.name ino := by
   unfold makeAt newNd
   rw [if_neg hk1,if_neg hk1]
  have e2 : newNd kind ino = ⟨ino,2,2,NE,[]⟩ := if_neg hk1
  rw [e1]
  refine ⟨rfl,⟨upd π ino s.dir,?_⟩,fun h => absurd rfl h⟩
  have hpb : ∀ j,0 ≤ upd π ino s.dir j ∧ upd π ino s.dir j ≤ 4294967295 := fun j => by
   have := h.sim.pb j
   unfold upd
   split <;> omega
  have w2 := w1.link (y := 1) hd1 (fun hq => by omega) (fun hq => by omega)
  rw [if_pos hdk,if_pos hdk] at w2
  have s2 := s1.linked (y := 1) hd1 (by omega)
  obtain ⟨d2,hd2,k2,l2,i2,en2⟩ := linked_at (y := 1) s1.nod hd1 hd1
  obtain ⟨n2,hn2,kn2,_,_,_⟩ := linked_at (y := 1) s1.nod hd1 hn1
  have hnk : n2.kind = 2 := by rw [kn2,e2]
  have hex := h.sim.wf.ex_none hi (by omega)
  have w3 := w2.ins (π' := upd π ino s.dir) hd2 (by rw [k2]; exact hdk) (by rw [en2]; exact hno) hnm (by omega) h2 hn2 (.inr ⟨hnk,by omega,rfl,fun z hz y hy hyi => by
   have hz1 := node_of s2.nod hz
   rw [node_linked s1.nod hd1] at hz1
   by_cases hzd : z.ino = s.dir
   ·rw [if_pos hzd] at hz1
    injection hz1 with hz1
    rw [← hz1] at hy
    exact hex d hdm.1 y hy hyi
   ·rw [if_neg hzd,hN1,new_ino] at hz1
    by_cases hzi : z.ino = ino
    ·rw [if_pos hzi] at hz1
     injection hz1 with hz1
     rw [← hz1,new_ents] at hy
     cases hy
    ·rw [if_neg hzi] at hz1
     exact hex z (node_mem hz1).1 y hy hyi⟩)
  have w4 := w3.eq (δ' := zro) (ε' := zro) (fun j => by
   unfold upd zro
   by_cases hj : j = ino
   ·rw [if_pos hj,if_pos rfl]; rfl
   ·rw [if_neg hj,if_neg hj]) (fun j => by
   rw [if_pos hnk]
   unfold upd zro
   by_cases hj : j = s.dir
   ·rw [if_pos hj,if_pos rfl,if_neg hdne]; rfl
   ·rw [if_neg hj,if_neg hj]; split <;> rfl)
  have r0 : RG F (upd π ino s.dir) (DirsX.gk L) := rg_pi h.sim.rg fun n hn => upd_ne _ _ (node_none hi n hn)
  have r1 := rg_new (n := newNd kind ino) r0 h.ws.bs h.rise hi' (new_ents _ _) (new_data _ _) (by rw [new_ino]; omega) (by rw [new_ino]; exact h2) (k := 2) (l := 2) (z := 0) (p := s.dir) (by
   rw [e2]
   unfold inoW
   dsimp only
   rw [if_pos rfl,upd_same]
   rfl)
  rw [new_ino] at r1
  have hr1 := rise_done h.rise (saveP ino 2 2 0 s.dir L)
  have r2 := rg_hang r1 s1.bs hr1 hd1 (good_of hnm) hino0
  have hr2 := rise_done hr1 (hangP s.dir s.name ino (doneW L (saveP ino 2 2 0 s.dir L)))
  have s3 := s1.named (i := ino) (nm := s.name) hd1 (fun _ => ⟨hnm,by omega,h2⟩)
  obtain ⟨d3,hd3,k3,l3,i3,_,_⟩ := named_at (i := ino) (nm := s.name) s1.nod hd1 hd1
  have hfd := h.sim.fine hdm.1
  have hfk := hfd.kl.resolve_left (fun h => by omega)
  have hdl : d.links ≤ 2000 := (h.ws.links d hdm.1).2
  have r3 := rg_tie (y := 1) r2 s3.bs hr2 hd3 ⟨.inr ⟨by rw [k3]; exact hdk,by rw [l3]; omega,by rw [l3]; omega⟩,(hpb _).1,(hpb _).2,s3.fd (node_mem hd3).1⟩ (by rw [upd_ne _ _ (show (1 : Int) ≠ ino by omega)]; exact h.sim.wf.par1) (by rw [l3]; omega)
  have s4 := s2.named (i := ino) (nm := s.name) hd2 (fun _ => ⟨hnm,by omega,h2⟩)
  have r4 := rg_eqv r3 (eqv_ln s1.nod hd1 hd1) (s3.linked hd3 (by omega)).nod s4.nod
  exact St.of w4 r4 hpb s4 (by omega) (by rw [if_neg hino0]; omega) hk (rise_out _ h.rise) (gone_out _ h.gone)
end
end Go.Proofs.YtogdjbhjgbnicaaGreatDoor.OpsBz
namespace Go.Proofs.YtogdjbhjgbnicaaGreatDoor.OpsBa
open Byte PackM KeysM TreeM ViewM ViewKm NamesM WalkM WalkF WalkKm DirsM DirsV DirsW DirsX DirsY OpsBs OpsBz
open NodeM hiding gk
open DirsS
open DirsBm FileV FileN
def Kept (F F2 : Fs) (t : Spt) : Prop := ∀ j n,nodeM F j = some n → j ≠ t.ino → ∃ n',nodeM F2 j = some n' ∧ n'.kind = n.kind ∧ ∀ e,e ∈ n'.ents ↔ e ∈ n.ents ∧ ¬ (j = t.dir ∧ e.name = t.name)
theorem kept_named {F A : Fs} {t : Spt} {d : Nd} {N M K : Nat} (ws : Ws A N M K) (hd : nodeM A t.dir = some d) (h : ∀ j n,nodeM F j = some n → j ≠ t.ino → ∃ n',nodeM A j = some n' ∧ n'.kind = n.kind ∧ n'.ents = n.ents) : Kept F (namedM A t.dir t.name 0) t := fun j n hn hj => by
 obtain ⟨n1,h1,h2,h3⟩ := h j n hn hj
 obtain ⟨n2,h4,h5,_,_,h6,h7⟩ := named_at (i := 0) (nm := t.name) ws.nod hd h1
 refine ⟨n2,h4,by rw [h5,h2],fun e => ?_⟩
 by_cases hjd : j = t.dir
 ·rw [h7 hjd,h3,mem_ins (by rw [← h3]; exact ws.ord n1 (node_mem h1).1)]
  constructor
  ·rintro (⟨h8,_⟩ | ⟨h8,h9⟩)
   ·exact absurd rfl h8
   ·exact ⟨h8,fun h => h9 h.2⟩
  ·rintro ⟨h8,h9⟩
   exact .inr ⟨h8,fun h => h9 ⟨hjd,h⟩⟩
 ·rw [h6 hjd,h3]
  exact ⟨fun h => ⟨h,fun h => hjd h.1⟩,fun h => h.1⟩
theorem eqv_trans {A B C : Fs} (h : Eqv A B) (k : Eqv B C) : Eqv A C := fun j => (h j).trans (k j)
structure Clr (F : Fs) (π : Int → Int) (L : List Pr) (k : Nat) (s : Spt) (n : Nd) (V : Int × List Wrt) (M : Int × Fs) : Prop where
 er : V.1 = M.1
 no : V.1 ≠ 0 → V.2 = [] ∧ M.2 = F
 yes : V.1 = 0 → St M.2 π (outW L V.2) k ∧ Kept F M.2 s ∧ n.ents = []
section
variable {F : Fs} {π : Int → Int} {L : List Pr} {k : Nat}
theorem ne_dir {s : Spt} {d n : Nd} {e : En} (hs : Sit F s d n e) (h : n.ents = []) : s.ino ≠ s.dir := fun q => by
 have h1 := hs.node
 rw [q,hs.dir] at h1
 injection h1 with h1
 have h2 := hs.me
 rw [h1,h] at h2
 cases h2
theorem no_more {A : Fs} {i : Int} (h : cnt A i = 0) : ∀ z ∈ A,∀ y ∈ z.ents,y.ino ≠ i := fun z hz y hy hyi => by
 have := cnt_pos.2 ⟨z,hz,y,hy,hyi⟩
 omega
theorem gone_cut (h : RG F π (DirsX.gk L)) (b : Bs F) (hr : Rise L) {A : Fs} {i d : Int} {nm : ByteArray} {n : Nd} (r1 : RG A π (DirsX.gk (doneW L (unhangP d nm L)))) (bA : Bs A) (hr1 : Rise (doneW L (unhangP d nm L))) (hn : nodeM A i = some n) (he : n.ents = []) (i0 : 0 ≤ i) (i1 : i ≤ 4294967295) (d0 : 0 ≤ d) (d1 : d ≤ 4294967295) (hnm : goodN nm) : RG (withoutM A i) π (DirsX.gk (outW L ([unhangP d nm] ++ drpPs L i 0 ++ [dropP i]))) := by
 rw [out_app,out_app]
 obtain ⟨L1,hL1⟩ : ∃ L1,doneW L (unhangP d nm L) = L1 := ⟨_,rfl⟩
 rw [hL1] at r1 hr1
 rw [show outW L [unhangP d nm] = L1 from hL1,drp_map]
 have hr2 := rise_out (((L.filter (blkF i 0)).map (·.key)).map delP) hr1
 have hq := fun k => gk_dels ((L.filter (blkF i 0)).map (·.key)) hr1 k
 have hE : ∀ w,0 ≤ w ∧ w ≤ 65535 → DirsX.gk L1 (kD i w) = DirsX.gk L (kD i w) := fun w hw => by
  rw [← hL1,gk_done hr]
  exact setG_ne _ (kED d0 d1 i0 i1 hnm hw).symm
 rw [show outW (outW L1 (((L.filter (blkF i 0)).map (·.key)).map delP)) [dropP i] = doneW (outW L1 (((L.filter (blkF i 0)).map (·.key)).map delP)) (dropP i (outW L1 (((L.filter (blkF i 0)).map (·.key)).map delP))) from rfl]
 rw [gk_done hr2]
 refine r1.gone_ bA hn he ?_ (fun w hw => ?_) (fun k k1 k2 => ?_)
 ·exact setG_same _ (dropP i (outW L1 (((L.filter (blkF i 0)).map (·.key)).map delP)))
 ·rw [setG_ne _ (show kD i w ≠ (dropP i (outW L1 (((L.filter (blkF i 0)).map (·.key)).map delP))).key from (kID i0 i1 i0 i1 hw).symm)]
  by_cases hm : kD i w ∈ (L.filter (blkF i 0)).map (·.key)
  ·exact (hq _).1 hm
  ·rw [(hq _).2 hm,hE w hw]
   cases hg : DirsX.gk L (kD i w) with
   | none => rfl
   | some v => exact absurd ((drp_mem hr i0 i1 hw).2 ⟨by rw [hg]; simp,hw.1⟩) hm
 ·rw [setG_ne _ (show k ≠ (dropP i (outW L1 (((L.filter (blkF i 0)).map (·.key)).map delP))).key from k1)]
  refine (hq k).2 (fun hm => ?_)
  obtain ⟨p,h1,h2⟩ := List.mem_map.1 hm
  obtain ⟨h3,h4⟩ := List.mem_filter.1 h1
  rw [FileO.key_D h b hr i0 i1 k2 p h3 h2] at h4
  cases h4
theorem rem_clr (h : St F π L k) {s : Spt} {d n : Nd} {e : En} (hs : Sit F s d n e) : Clr F π L k s n (remV L (spotOf F π s)) (removeAt F s) := by
 have hx := spot_k h hs.node
 have hli : listM (spotOf F π s).ino L = n.ents.map (·.name) := h.sim.list h.rise h.gone hs.node
 have hnm := node_mem hs.node
 have hdm := node_mem hs.dir
 unfold remV removeAt
 rw [hs.node,hx,hli]
 dsimp only
 rw [show (inoL π n).k = n.kind from rfl,List.length_map]
 by_cases hk2 : n.kind ≠ 2
 ·rw [if_pos hk2,if_pos hk2]; exact ⟨rfl,fun _ => ⟨rfl,rfl⟩,fun h => by cases h⟩
 rw [if_neg hk2,if_neg hk2]
 by_cases hl : n.ents.length ≠ 0
 ·rw [if_pos hl,if_pos hl]; exact ⟨rfl,fun _ => ⟨rfl,rfl⟩,fun h => by cases h⟩
 rw [if_neg hl,if_neg hl]
 have hk : n.kind = 2 := by omega
 have he : n.ents = [] := List.length_eq_zero_iff.1 (by omega)
 have hne := ne_dir hs he
 refine ⟨rfl,fun h => absurd rfl h,fun _ => ?_⟩
 show St (namedM (linkedM (withoutM F s.ino) s.dir (-1)) s.dir s.name 0) π (outW L [unhangP s.dir s.name,dropP s.ino,tieP s.dir (-1)]) k ∧ _
 have r1 := rg_unhang h.sim.rg h.ws.bs h.rise hs.dir (good_of hs.nm)
 have s1 := h.ws.named (i := 0) (nm := s.name) hs.dir (fun h => absurd rfl h)
 have hr1 := rise_done h.rise (unhangP s.dir s.name L)
 obtain ⟨n1,hn1,kn1,_,_,en1,_⟩ := named_at (i := 0) (nm := s.name) h.ws.nod hs.dir hs.node
 have r2 := rg_drop r1 s1.bs hr1 hn1 (by rw [en1 hne]; exact he) ((s1.data _ (node_mem hn1).1).2 (by rw [kn1]; exact hk))
 have s2 := s1.wo s.ino
 have hr2 := rise_done hr1 (dropP s.ino (doneW L (unhangP s.dir s.name L)))
 obtain ⟨d1,hd1,kd1,ld1,id1,_,_⟩ := named_at (i := 0) (nm := s.name) h.ws.nod hs.dir hs.dir
 have hd2 := wo_at s1.nod hd1 (fun q => hne q.symm)
 have hfk := (h.sim.fine hdm.1).kl.resolve_left (fun h => by have := hs.dk; omega)
 have hdl : d.links ≤ 2000 := (h.ws.links d hdm.1).2
 have r3 := rg_tie (y := -1) r2 s2.bs hr2 hd2 ⟨.inr ⟨by rw [kd1]; exact hs.dk,by rw [ld1]; omega,by rw [ld1]; omega⟩,(h.sim.pb _).1,(h.sim.pb _).2,s2.fd (node_mem hd2).1⟩ h.sim.wf.par1 (by rw [ld1]; omega)
 have t1 := h.ws.wo s.ino
 have hdw := wo_at h.ws.nod hs.dir (fun q => hne q.symm)
 have t2 := t1.linked (y := -1) hdw (by omega)
 obtain ⟨d2,hdd2,kd2,ld2,id2,ed2⟩ := linked_at (y := -1) t1.nod hdw hdw
 have t3 := t2.named (i := 0) (nm := s.name) hdd2 (fun h => absurd rfl h)
 have u1 := (t1.named (i := 0) (nm := s.name) hdw (fun h => absurd rfl h)).nod
 have r4 := rg_eqv r3 (eqv_trans (eqv_link s2.nod u1 (eqv_wn h.ws.nod hs.dir (fun q => hne q.symm)) hd2) (eqv_ln t1.nod hdw hdw)) (s2.linked hd2 (by omega)).nod t3.nod
 have hc : cnt F s.ino = 1 := by
  have h1 := h.sim.wf.cnt n hnm.1
  unfold wantC at h1
  have h2 := hs.i2
  rw [hnm.2,if_neg h2,if_pos hk] at h1
  have h3 : zro s.ino = 0 := rfl
  omega
 have v1 := h.sim.wf.drop hs.dir hs.me hs.ei hs.node he hs.i2 hc
 rw [if_pos hk] at v1
 have v2 := v1.link (y := -1) hdw (fun q => by have := hs.dk; omega) (fun q => by have := hs.dk; omega)
 rw [if_pos hs.dk,if_pos hs.dk] at v2
 have v3 := v2.del (e := e) hdd2 (by rw [kd2]; exact hs.dk) (by rw [ed2]; exact hs.me)
 have hi2 : nodeM (linkedM (withoutM F s.ino) s.dir (-1)) s.ino = none := by
  rw [node_linked t1.nod hdw,if_neg hne,node_wo h.ws.nod,if_pos rfl]
 rw [hs.en,hs.ei,dir_none hi2,if_neg (by decide)] at v3
 have hi3 : nodeM (namedM (linkedM (withoutM F s.ino) s.dir (-1)) s.dir s.name 0) s.ino = none := by
  rw [node_named t2.nod hdd2,if_neg hne]; exact hi2
 have hc3 : cnt (namedM (linkedM (withoutM F s.ino) s.dir (-1)) s.dir s.name 0) s.ino = 0 := by
  have h1 := cnt_named (i := 0) (nm := s.name) t2.nod hdd2 (t2.ord d2 (node_mem hdd2).1) s.ino
  rw [cnt_linked t1.nod hdw,cnt_wo h.ws.nod hs.node he,hc,← hs.en,old_some (t2.ord d2 (node_mem hdd2).1) (by rw [ed2]; exact hs.me),if_pos hs.ei,hs.en] at h1
  simp at h1
  exact h1
 have v4 := (v3.clean (no_more hc3)).eq_on (δ' := zro) (ε' := zro) (fun m hm => by
  unfold upd zro
  rw [if_neg (node_none hi3 m hm)]) (fun m hm _ => by
  unfold upd zro
  split
  ·rw [if_pos rfl]; rfl
  ·rfl)
 refine ⟨St.of v4 r4 h.sim.pb t3 (Nat.le_refl _) (by rw [if_pos rfl]; omega) h.hk (rise_out _ h.rise) (gone_out _ h.gone),kept_named t2 hdd2 fun j m hm hj => ?_,he⟩
 obtain ⟨m',h1,h2,_,_,h3⟩ := linked_at (y := -1) t1.nod hdw (wo_at h.ws.nod hm hj)
 exact ⟨m',h1,h2,h3⟩
theorem unl_clr (h : St F π L k) {s : Spt} {d n : Nd} {e : En} (hs : Sit F s d n e) : Clr F π L k s n (unlB L (spotOf F π s)) (unlinkAt F s) := by
 have hx := spot_k h hs.node
 have hnm := node_mem hs.node
 have hdm := node_mem hs.dir
 unfold unlB unlinkAt
 rw [hs.node,hx]
 dsimp only
 rw [show (inoL π n).k = n.kind from rfl,show (inoL π n).l = n.links from rfl]
 rcases h.sim.wf.kind n hnm.1 with hk2 | ⟨hk1,he⟩
 ·rw [if_pos (show n.kind ≠ 1 by omega),if_pos hk2]; exact ⟨rfl,fun _ => ⟨rfl,rfl⟩,fun h => by cases h⟩
 rw [if_neg (show ¬ n.kind ≠ 1 by omega),if_neg (show ¬ n.kind = 2 by omega)]
 have hne := ne_dir hs he
 have hp := h.sim.wf.pos n hnm.1 hk1
 have r1 := rg_unhang h.sim.rg h.ws.bs h.rise hs.dir (good_of hs.nm)
 have s1 := h.ws.named (i := 0) (nm := s.name) hs.dir (fun h => absurd rfl h)
 have hr1 := rise_done h.rise (unhangP s.dir s.name L)
 obtain ⟨n1,hn1,_,_,_,en1,_⟩ := named_at (i := 0) (nm := s.name) h.ws.nod hs.dir hs.node
 have en1 := en1 hne
 subst en1
 have hcw : cnt F s.ino = n1.links := by
  have h1 := h.sim.wf.cnt n1 hnm.1
  unfold wantC at h1
  have h2 := hs.i2
  rw [hnm.2,if_neg h2,if_neg (show ¬ n1.kind = 2 by omega)] at h1
  have h3 : zro s.ino = 0 := rfl
  omega
 by_cases hl : 1 < n1.links
 ·rw [if_pos hl,if_neg (show ¬ n1.links = 1 by omega)]
  refine ⟨rfl,fun h => absurd rfl h,fun _ => ?_⟩
  show St (namedM (linkedM F s.ino (-1)) s.dir s.name 0) π (outW L [unhangP s.dir s.name,saveP s.ino n1.kind (n1.links - 1) n1.data.size (if n1.kind = 2 then π n1.ino else 0)]) k ∧ _
  have r2 := rg_save (y := -1) r1 s1.bs hr1 hn1 (k := n1.kind) (l := n1.links - 1) (z := n1.data.size) (p := if n1.kind = 2 then π n1.ino else 0) rfl
  have t1 := h.ws.linked (y := -1) hs.node (by omega)
  obtain ⟨d1,hd1,kd1,_,_,ed1⟩ := linked_at (y := -1) h.ws.nod hs.node hs.dir
  have t2 := t1.named (i := 0) (nm := s.name) hd1 (fun h => absurd rfl h)
  have r3 := rg_eqv r2 (eqv_ln h.ws.nod hs.dir hs.node) (s1.linked hn1 (by omega)).nod t2.nod
  have v1 := h.sim.wf.link (y := -1) hs.node (fun _ => by omega) (fun _ => hs.i2)
  rw [if_neg (show ¬ n1.kind = 2 by omega),if_neg (show ¬ n1.kind = 2 by omega)] at v1
  have v2 := v1.del (e := e) hd1 (by rw [kd1]; exact hs.dk) (by rw [ed1]; exact hs.me)
  have hdi : dirB (linkedM F s.ino (-1)) s.ino = false := by
   unfold dirB
   rw [node_linked h.ws.nod hs.node,if_pos rfl]
   exact decide_eq_false (by show ¬ n1.kind = 2; omega)
  rw [hs.en,hs.ei,hdi,if_neg (by decide)] at v2
  have v3 := v2.eq (δ' := zro) (ε' := zro) (fun j => by
   unfold upd zro
   by_cases hj : j = s.ino
   ·rw [if_pos hj,if_pos rfl]; rfl
   ·rw [if_neg hj,if_neg hj]) (fun j => rfl)
  refine ⟨St.of v3 r3 h.sim.pb t2 (Nat.le_refl _) (by rw [if_pos rfl]; omega) h.hk (rise_out _ h.rise) (gone_out _ h.gone),kept_named t1 hd1 fun j m hm hj => ?_,he⟩
  obtain ⟨m',h1,h2,_,_,h3⟩ := linked_at (y := -1) h.ws.nod hs.node hm
  exact ⟨m',h1,h2,h3⟩
 ·rw [if_neg hl,if_pos (show n1.links = 1 by omega)]
  refine ⟨rfl,fun h => absurd rfl h,fun _ => ?_⟩
  show St (namedM (withoutM F s.ino) s.dir s.name 0) π (outW L ([unhangP s.dir s.name] ++ drpPs L s.ino 0 ++ [dropP s.ino])) k ∧ _
  have hsi0 : 0 ≤ s.ino := by have := hs.i0; omega
  have r2 : RG (withoutM (namedM F s.dir s.name 0) s.ino) π (DirsX.gk (outW L ([unhangP s.dir s.name] ++ drpPs L s.ino 0 ++ [dropP s.ino]))) := gone_cut h.sim.rg h.ws.bs h.rise r1 s1.bs hr1 hn1 he hsi0 hs.i1 (by have h1 := h.ws.ino d hdm.1; rw [hdm.2] at h1; omega) (by have h1 := h.ws.ino d hdm.1; rw [hdm.2] at h1; omega) (good_of hs.nm)
  have t1 := h.ws.wo s.ino
  have hdw := wo_at h.ws.nod hs.dir (fun q => hne q.symm)
  have t2 := t1.named (i := 0) (nm := s.name) hdw (fun h => absurd rfl h)
  have r3 := rg_eqv r2 (eqv_wn h.ws.nod hs.dir (fun q => hne q.symm)) (s1.wo s.ino).nod t2.nod
  have hc : cnt F s.ino = 1 := by omega
  have v1 := h.sim.wf.drop hs.dir hs.me hs.ei hs.node he hs.i2 hc
  rw [if_neg (show ¬ n1.kind = 2 by omega)] at v1
  have v2 := v1.del (e := e) hdw hs.dk hs.me
  have hi2 : nodeM (withoutM F s.ino) s.ino = none := by rw [node_wo h.ws.nod,if_pos rfl]
  rw [hs.en,hs.ei,dir_none hi2,if_neg (by decide)] at v2
  have hi3 : nodeM (namedM (withoutM F s.ino) s.dir s.name 0) s.ino = none := by
   rw [node_named t1.nod hdw,if_neg hne]; exact hi2
  have hc3 : cnt (namedM (withoutM F s.ino) s.dir s.name 0) s.ino = 0 := by
   have h1 := cnt_named (i := 0) (nm := s.name) t1.nod hdw (t1.ord d (node_mem hdw).1) s.ino
   rw [cnt_wo h.ws.nod hs.node he,hc,← hs.en,old_some (t1.ord d (node_mem hdw).1) hs.me,if_pos hs.ei,hs.en] at h1
   simp at h1
   exact h1
  have v3 := (v2.clean (no_more hc3)).eq_on (δ' := zro) (ε' := zro) (fun m hm => by
   unfold upd zro
   rw [if_neg (node_none hi3 m hm)]) (fun m hm _ => rfl)
  exact ⟨St.of v3 r3 h.sim.pb t2 (Nat.le_refl _) (by rw [if_pos rfl]; omega) h.hk (rise_out _ h.rise) (gone_out _ h.gone),kept_named t1 hdw fun j m hm hj => ⟨m,wo_at h.ws.nod hm hj,rfl,rfl⟩,he⟩
theorem Clr.did {s : Spt} {n : Nd} {V : Int × List Wrt} {M : Int × Fs} (c : Clr F π L k s n V M) (h : St F π L k) (hk : k + 1 ≤ 900) : Did L V M (k + 1) := by
 refine ⟨c.er,?_,fun h => (c.no h).1⟩
 by_cases he : V.1 = 0
 ·exact ⟨π,(c.yes he).1.more (Nat.le_succ _) hk⟩
 ·have := c.no he
  rw [this.1,this.2]
  exact ⟨π,h.more (Nat.le_succ _) hk⟩
theorem rmd_did (h : St F π L k) (hk : k + 1 ≤ 900) (path : ByteArray) : Did L (rmdV L path) (removeM F path) (k + 1) := by
 obtain ⟨hf,hled⟩ := h.sim.find path
 unfold rmdV removeM
 rw [hf]
 obtain ⟨⟨s,er⟩,hR⟩ : ∃ R,fndM F path = R := ⟨_,rfl⟩
 rw [hR] at hled ⊢
 dsimp only at hled ⊢
 by_cases he : er ≠ 0
 ·rw [if_pos he,if_pos he]; exact Did.err h hk
 rw [if_neg he,if_neg he]
 have hsi : (spotOf F π s).ino = s.ino := rfl
 rw [hsi]
 by_cases h1 : s.ino = 1
 ·rw [if_pos h1,if_pos h1]; exact Did.err h hk
 rw [if_neg h1,if_neg h1]
 by_cases h0 : s.ino = 0
 ·rw [if_pos h0,if_pos h0]; exact Did.err h hk
 rw [if_neg h0,if_neg h0]
 obtain ⟨d,n,e,hs⟩ := sit_of h (hled (by omega)) h0 h1
 exact (rem_clr h hs).did h hk
theorem ulk_did (h : St F π L k) (hk : k + 1 ≤ 900) (path : ByteArray) : Did L (ulkB L path) (unlinkM F path) (k + 1) := by
 obtain ⟨hf,hled⟩ := h.sim.find path
 unfold ulkB unlinkM
 rw [hf]
 obtain ⟨⟨s,er⟩,hR⟩ : ∃ R,fndM F path = R := ⟨_,rfl⟩
 rw [hR] at hled ⊢
 dsimp only at hled ⊢
 by_cases he : er ≠ 0
 ·rw [if_pos he,if_pos he]; exact Did.err h hk
 rw [if_neg he,if_neg he]
 have hsi : (spotOf F π s).ino = s.ino := rfl
 rw [hsi]
 by_cases h0 : s.ino = 0
 ·rw [if_pos h0,if_pos h0]; exact Did.err h hk
 rw [if_neg h0,if_neg h0]
 by_cases h1 : s.ino = 1
 ·obtain ⟨r,hr,hk2⟩ := h.sim.wf.root
  rw [← h1] at hr
  unfold unlB unlinkAt
  rw [hr,spot_k h hr]
  dsimp only
  rw [show (inoL π r).k = r.kind from rfl,if_pos (show r.kind ≠ 1 by omega),if_pos hk2]
  exact Did.err h hk
 ·obtain ⟨d,n,e,hs⟩ := sit_of h (hled (by omega)) h0 h1
  exact (unl_clr h hs).did h hk
theorem lnk_did (h : St F π L k) (hk : k + 1 ≤ 900) (old path : ByteArray) : Did L (lnkV L old path) (linkM F old path) (k + 1) := by
 obtain ⟨hf,hled⟩ := h.sim.find old
 obtain ⟨hf2,hled2⟩ := h.sim.find path
 unfold lnkV linkM
 rw [hf,hf2]
 obtain ⟨⟨s,er⟩,hR⟩ : ∃ R,fndM F old = R := ⟨_,rfl⟩
 obtain ⟨⟨t,er2⟩,hR2⟩ : ∃ R,fndM F path = R := ⟨_,rfl⟩
 rw [hR] at hled ⊢
 rw [hR2] at hled2 ⊢
 dsimp only at hled hled2 ⊢
 by_cases he : er ≠ 0
 ·rw [if_pos he,if_pos he]; exact Did.err h hk
 rw [if_neg he,if_neg he]
 have hsi : (spotOf F π s).ino = s.ino := rfl
 have hti : (spotOf F π t).ino = t.ino := rfl
 have htd : (spotOf F π t).dir = t.dir := rfl
 have htn : (spotOf F π t).name = t.name := rfl
 rw [hsi,hti,htd,htn]
 by_cases h0 : s.ino = 0
 ·rw [if_pos h0,if_pos h0]; exact Did.err h hk
 rw [if_neg h0,if_neg h0]
 have led := hled (by omega)
 obtain ⟨n,hn⟩ := led.at_.resolve_left h0
 have hnm := node_mem hn
 rw [hn,spot_k h hn]
 dsimp only
 rw [show (inoL π n).k = n.kind from rfl,show (inoL π n).l = n.links from rfl]
 rcases h.sim.wf.kind n hnm.1 with hk2 | ⟨hk1,hents⟩
 ·rw [if_pos (show n.kind ≠ 1 by omega),if_pos hk2]; exact Did.err h hk
 rw [if_neg (show ¬ n.kind ≠ 1 by omega),if_neg (show ¬ n.kind = 2 by omega)]
 by_cases he2 : er2 ≠ 0
 ·rw [if_pos he2,if_pos he2]; exact Did.err h hk
 rw [if_neg he2,if_neg he2]
 by_cases h02 : t.ino ≠ 0
 ·rw [if_pos h02,if_pos h02]; exact Did.err h hk
 rw [if_neg h02,if_neg h02]
 by_cases hl : 1000 ≤ n.links
 ·rw [if_pos hl,if_pos hl]; exact Did.err h hk
 rw [if_neg hl,if_neg hl]
 have h1 : s.ino ≠ 1 := fun h1 => by
  obtain ⟨r,hr,hrk⟩ := h.sim.wf.root
  rw [← h1,hn] at hr
  injection hr with hr
  rw [hr] at hk1
  omega
 have hni := h.ws.ino n hnm.1
 rw [hnm.2] at hni
 have h00 : t.ino = 0 := by omega
 obtain ⟨htnm,d,hd,hdk,hde⟩ := (hled2 (by omega)).way.resolve_left (fun h => by omega)
 rw [h00] at hde
 have hno := no_entry h hd hde
 have hne : s.ino ≠ t.dir := fun q => by
  rw [← q,hn] at hd
  injection hd with hd
  rw [hd] at hk1
  omega
 have hp := h.sim.wf.pos n hnm.1 hk1
 refine ⟨rfl,⟨π,?_⟩,fun h => absurd rfl h⟩
 show St (namedM (linkedM F s.ino 1) t.dir t.name s.ino) π (outW L [hangP t.dir t.name s.ino,saveP s.ino n.kind (n.links + 1) n.data.size (if n.kind = 2 then π n.ino else 0)]) (k + 1)
 have r1 := rg_hang h.sim.rg h.ws.bs h.rise hd (good_of htnm) h0
 have s1 := h.ws.named (i := s.ino) (nm := t.name) hd (fun _ => ⟨htnm,hni⟩)
 have hr1 := rise_done h.rise (hangP t.dir t.name s.ino L)
 obtain ⟨n1,hn1,_,_,_,en1,_⟩ := named_at (i := s.ino) (nm := t.name) h.ws.nod hd hn
 have en1 := en1 hne
 subst en1
 have r2 := rg_save (y := 1) r1 s1.bs hr1 hn1 (k := n1.kind) (l := n1.links + 1) (z := n1.data.size) (p := if n1.kind = 2 then π n1.ino else 0) rfl
 have t1 := h.ws.linked (y := 1) hn (by omega)
 obtain ⟨d1,hd1,kd1,_,_,ed1⟩ := linked_at (y := 1) h.ws.nod hn hd
 have t2 := t1.named (i := s.ino) (nm := t.name) hd1 (fun _ => ⟨htnm,hni⟩)
 have r3 := rg_eqv r2 (eqv_ln h.ws.nod hd hn) (s1.linked hn1 (by omega)).nod t2.nod
 have v1 := h.sim.wf.link (y := 1) hn (fun _ => by omega) (fun _ => h1)
 rw [if_neg (show ¬ n1.kind = 2 by omega),if_neg (show ¬ n1.kind = 2 by omega)] at v1
 obtain ⟨m1,hm1,km1,_,_,_⟩ := linked_at (y := 1) h.ws.nod hn hn
 have v2 := v1.ins hd1 (by rw [kd1]; exact hdk) (by rw [ed1]; exact hno) htnm hni.1 hni.2 hm1 (.inl ⟨by rw [km1]; omega,rfl⟩)
 rw [if_neg (show ¬ m1.kind = 2 by omega)] at v2
 have v3 := v2.eq (δ' := zro) (ε' := zro) (fun j => by
  unfold upd zro
  by_cases hj : j = s.ino
  ·rw [if_pos hj,if_pos rfl]; rfl
  ·rw [if_neg hj,if_neg hj]) (fun j => rfl)
 exact St.of v3 r3 h.sim.pb t2 (by omega) (by rw [if_neg h0]; omega) hk (rise_out _ h.rise) (gone_out _ h.gone)
end
end Go.Proofs.YtogdjbhjgbnicaaGreatDoor.OpsBa
namespace Go.Proofs.YtogdjbhjgbnicaaGreatDoor.OpsBb
open Byte PackM KeysM TreeM ViewM ViewKm NamesM WalkM WalkF WalkKm DirsM DirsV DirsW DirsX DirsY OpsBs OpsBz OpsBa
open NodeM hiding gk
open DirsS
open DirsBm
section
variable {F : Fs} {π : Int → Int} {L : List Pr} {k : Nat}
theorem mov_st (h : St F π L k) (hk : k + 1 ≤ 900) {s t : Spt} {d n td : Nd} {e : En} (hs : Sit F s d n e) (ht : nodeM F t.dir = some td) (tdk : td.kind = 2) (hno : ∀ e ∈ td.ents,e.name ≠ t.name) (htnm : nameOk t.name = true) {x y : Spot} (x1 : x.dir = s.dir) (x2 : x.name = s.name) (x3 : x.ino = s.ino) (x4 : x.node.k = n.kind) (y1 : y.dir = t.dir) (y2 : y.name = t.name) : ∃ π',St (moveAt F s t (decide (n.kind = 2))) π' (outW L (movPs x y)) (k + 1) := by
 have hi0 : s.ino ≠ 0 := by have := hs.i0; omega
 have hnm := node_mem hs.node
 have hdm := node_mem hs.dir
 have htm := node_mem ht
 have htb := h.ws.ino td htm.1
 rw [htm.2] at htb
 have r1 := rg_unhang h.sim.rg h.ws.bs h.rise hs.dir (good_of hs.nm)
 have s1 := h.ws.named (i := 0) (nm := s.name) hs.dir (fun h => absurd rfl h)
 have hr1 := rise_done h.rise (unhangP s.dir s.name L)
 obtain ⟨td1,ht1,ktd1,ltd1,itd1,etd1,etd2⟩ := named_at (i := 0) (nm := s.name) h.ws.nod hs.dir ht
 obtain ⟨d1,hd1,kd1,ld1,id1,_,_⟩ := named_at (i := 0) (nm := s.name) h.ws.nod hs.dir hs.dir
 obtain ⟨n1,hn1,kn1,ln1,in1,_,_⟩ := named_at (i := 0) (nm := s.name) h.ws.nod hs.dir hs.node
 have hno1 : ∀ e ∈ td1.ents,e.name ≠ t.name := fun z hz => by
  by_cases q : t.dir = s.dir
  ·rw [etd2 q] at hz
   rcases (mem_ins (h.ws.ord td htm.1)).1 hz with ⟨h1,_⟩ | ⟨h1,_⟩
   ·exact absurd rfl h1
   ·exact hno z h1
  ·rw [etd1 q] at hz
   exact hno z hz
 have r2 := rg_hang r1 s1.bs hr1 ht1 (good_of htnm) hi0
 have s2 := s1.named (i := s.ino) (nm := t.name) ht1 (fun _ => ⟨htnm,hs.i0,hs.i1⟩)
 have hr2 := rise_done hr1 (hangP t.dir t.name s.ino (doneW L (unhangP s.dir s.name L)))
 have v1 := h.sim.wf.del hs.dir hs.dk hs.me
 rw [hs.en,hs.ei,dir_some hs.node] at v1
 by_cases hk2 : n.kind = 2
 ·rw [decide_eq_true hk2] at v1 ⊢
  rw [if_pos rfl] at v1
  have e1 : moveAt F s t true = linkedM (linkedM (namedM (namedM F s.dir s.name 0) t.dir t.name s.ino) s.dir (-1)) t.dir 1 := rfl
  rw [e1]
  refine ⟨upd π s.ino t.dir,?_⟩
  have hpb : ∀ j,0 ≤ upd π s.ino t.dir j ∧ upd π s.ino t.dir j ≤ 4294967295 := fun j => by
   have := h.sim.pb j
   unfold upd
   split <;> omega
  have hp1 : upd π s.ino t.dir 1 = 1 := by rw [upd_ne _ _ (fun q => hs.i2 q.symm)]; exact h.sim.wf.par1
  have hn1m := node_mem hn1
  have hc1 : cnt (namedM F s.dir s.name 0) s.ino = 0 := by
   have h1 := v1.cnt n1 hn1m.1
   unfold wantC at h1
   rw [hn1m.2,if_neg hs.i2,if_pos (by rw [kn1]; exact hk2),upd_same] at h1
   have h3 : zro s.ino = 0 := rfl
   omega
  have v2 := v1.ins (π' := upd π s.ino t.dir) ht1 (by rw [ktd1]; exact tdk) hno1 htnm hs.i0 hs.i1 hn1 (.inr ⟨by rw [kn1]; exact hk2,hs.i2,rfl,no_more hc1⟩)
  rw [if_pos (by rw [kn1]; exact hk2)] at v2
  obtain ⟨d2,hd2,kd2,ld2,id2,_,_⟩ := named_at (i := s.ino) (nm := t.name) s1.nod ht1 hd1
  obtain ⟨td2,ht2,ktd2,ltd2,itd2,_,_⟩ := named_at (i := s.ino) (nm := t.name) s1.nod ht1 ht1
  obtain ⟨n2,hn2,kn2,ln2,in2,_,_⟩ := named_at (i := s.ino) (nm := t.name) s1.nod ht1 hn1
  have hdk2 : d2.kind = 2 := by rw [kd2,kd1]; exact hs.dk
  have v3 := v2.link (y := -1) hd2 (fun q => by omega) (fun q => by omega)
  rw [if_pos hdk2,if_pos hdk2] at v3
  have s3 := s2.linked (y := -1) hd2 (by omega)
  obtain ⟨td3,ht3,ktd3,ltd3,itd3,_⟩ := linked_at (y := -1) s2.nod hd2 ht2
  have htk3 : td3.kind = 2 := by rw [ktd3,ktd2,ktd1]; exact tdk
  have v4 := v3.link (y := 1) ht3 (fun q => by omega) (fun q => by omega)
  rw [if_pos htk3,if_pos htk3] at v4
  have s4 := s3.linked (y := 1) ht3 (by omega)
  have v5 := v4.eq (δ' := zro) (ε' := zro) (fun j => by
   unfold upd zro
   by_cases hj : j = s.ino
   ·rw [if_pos hj,if_pos rfl]; rfl
   ·rw [if_neg hj,if_neg hj]) (fun j => by
   unfold upd zro
   by_cases a : t.dir = s.dir
   ·by_cases b : j = s.dir
    ·simp [a,b]
    ·simp [a,b]
   ·have a' : ¬ s.dir = t.dir := fun q => a q.symm
    by_cases b : j = s.dir
    ·simp [a,a',b]
    ·by_cases c : j = t.dir
     ·simp [a,a',b,c]
     ·simp [a,a',b,c])
  have hfn := h.sim.fine hnm.1
  have hfd := (h.sim.fine hdm.1).kl.resolve_left (fun q => by have := hs.dk; omega)
  have hft := (h.sim.fine htm.1).kl.resolve_left (fun q => by omega)
  have hdl : d.links ≤ 2000 := (h.ws.links d hdm.1).2
  have htl : td.links ≤ 2000 := (h.ws.links td htm.1).2
  by_cases hsd : s.dir = t.dir
  ·have e2 : movPs x y = [unhangP s.dir s.name,hangP t.dir t.name s.ino] := by
    unfold movPs
    rw [if_neg (fun q => q.2 (by rw [x1,y1]; exact hsd)),x1,x2,x3,y1,y2]
   rw [e2]
   have r3 := rg_pi r2 (π' := upd π s.ino t.dir) (fun z hz => by
    unfold upd
    by_cases q : z.ino = s.ino
    ·rw [if_pos q,q]
     have := h.sim.wf.par d hdm.1 e hs.me (by rw [hs.ei,dir_some hs.node]; exact decide_eq_true hk2)
     rw [hs.ei,hdm.2] at this
     rw [this,hsd]
    ·rw [if_neg q])
   have hE : Eqv (namedM (namedM F s.dir s.name 0) t.dir t.name s.ino) (linkedM (linkedM (namedM (namedM F s.dir s.name 0) t.dir t.name s.ino) s.dir (-1)) t.dir 1) := fun j => by
    rw [← hsd]
    rw [← hsd] at hd2 s2
    exact (eqv_back s2.nod hd2 j).symm
   exact St.of v5 (rg_eqv r3 hE s2.nod s4.nod) hpb s4 (by omega) (by rw [if_pos rfl,if_neg hi0]; omega) hk (rise_out _ h.rise) (gone_out _ h.gone)
  ·have e2 : movPs x y = [unhangP s.dir s.name,hangP t.dir t.name s.ino,adoptP t.dir s.ino,tieP s.dir (-1),tieP t.dir 1] := by
    unfold movPs
    rw [if_pos ⟨by rw [x4]; exact hk2,by rw [x1,y1]; exact hsd⟩,x1,x2,x3,y1,y2]
   rw [e2]
   have fin : ∀ {π2 : Int → Int} {m m' : Nd},(∀ j,0 ≤ π2 j ∧ π2 j ≤ 4294967295) → m'.kind = 2 → m'.links = m.links → 2 ≤ m.links → m.links ≤ 2000 → (m'.data.size ≤ 4096 ∧ (m'.kind = 2 → m'.data = NE)) → Fine π2 m' := fun hb a b c q z => ⟨.inr ⟨a,by omega,by omega⟩,(hb _).1,(hb _).2,z⟩
   have hnk := hfn.kl.resolve_left (fun q => by omega)
   have hnl : n.links ≤ 2000 := (h.ws.links n hnm.1).2
   have r3 := rg_adopt (p := t.dir) r2 s2.bs hr2 hn2 (by rw [kn2,kn1]; exact hk2) (fin (m := n) h.sim.pb (by rw [kn2,kn1]; exact hk2) (by rw [ln2,ln1]) hnk.2.1 hnl (s2.fd (node_mem hn2).1)) h.sim.wf.par1
   have hr3 := rise_done hr2 (adoptP t.dir s.ino (doneW (doneW L (unhangP s.dir s.name L)) (hangP t.dir t.name s.ino (doneW L (unhangP s.dir s.name L)))))
   have r4 := rg_tie (y := -1) r3 s2.bs hr3 hd2 (fin (m := d) hpb hdk2 (by rw [ld2,ld1]) hfd.2.1 hdl (s2.fd (node_mem hd2).1)) hp1 (by rw [ld2,ld1]; omega)
   have hr4 := rise_done hr3 (tieP s.dir (-1) (doneW (doneW (doneW L (unhangP s.dir s.name L)) (hangP t.dir t.name s.ino (doneW L (unhangP s.dir s.name L)))) (adoptP t.dir s.ino (doneW (doneW L (unhangP s.dir s.name L)) (hangP t.dir t.name s.ino (doneW L (unhangP s.dir s.name L)))))))
   have lt3 : td3.links = td.links := by rw [ltd3,if_neg (fun q => hsd q.symm),ltd2,ltd1]
   have r5 := rg_tie (y := 1) r4 s3.bs hr4 ht3 (fin (m := td) hpb htk3 lt3 hft.2.1 htl (s3.fd (node_mem ht3).1)) hp1 (by rw [lt3]; omega)
   exact St.of v5 r5 hpb s4 (by omega) (by rw [if_pos rfl,if_neg hi0]; omega) hk (rise_out _ h.rise) (gone_out _ h.gone)
 ·rw [decide_eq_false hk2] at v1 ⊢
  rw [if_neg (by decide)] at v1
  have e1 : moveAt F s t false = namedM (namedM F s.dir s.name 0) t.dir t.name s.ino := rfl
  have e2 : movPs x y = [unhangP s.dir s.name,hangP t.dir t.name s.ino] := by
   unfold movPs
   rw [if_neg (fun q => hk2 (by rw [← x4]; exact q.1)),x1,x2,x3,y1,y2]
  rw [e1,e2]
  refine ⟨π,?_⟩
  have v2 := v1.ins (π' := π) ht1 (by rw [ktd1]; exact tdk) hno1 htnm hs.i0 hs.i1 hn1 (.inl ⟨by rw [kn1]; exact hk2,rfl⟩)
  rw [if_neg (by rw [kn1]; exact hk2)] at v2
  have v3 := v2.eq (δ' := zro) (ε' := zro) (fun j => by
   unfold upd zro
   by_cases hj : j = s.ino
   ·rw [if_pos hj,if_pos rfl]; rfl
   ·rw [if_neg hj,if_neg hj]) (fun j => rfl)
  exact St.of v3 r2 h.sim.pb s2 (by omega) (by rw [if_pos rfl,if_neg hi0]; omega) hk (rise_out _ h.rise) (gone_out _ h.gone)
theorem ren_did (h : St F π L k) (hk : k + 1 ≤ 900) (old path : ByteArray) : Did L (renB L old path) (renameM F old path) (k + 1) := by
 obtain ⟨hf,hled⟩ := h.sim.find old
 obtain ⟨hf2,hled2⟩ := h.sim.find path
 unfold renB renameM
 rw [hf,hf2]
 obtain ⟨⟨s,er⟩,hR⟩ : ∃ R,fndM F old = R := ⟨_,rfl⟩
 obtain ⟨⟨t,er2⟩,hR2⟩ : ∃ R,fndM F path = R := ⟨_,rfl⟩
 rw [hR] at hled ⊢
 rw [hR2] at hled2 ⊢
 dsimp only at hled hled2 ⊢
 by_cases he : er ≠ 0
 ·rw [if_pos he,if_pos he]; exact Did.err h hk
 rw [if_neg he,if_neg he]
 have hsi : (spotOf F π s).ino = s.ino := rfl
 have hti : (spotOf F π t).ino = t.ino := rfl
 rw [hsi,hti]
 by_cases h1 : s.ino = 1
 ·rw [if_pos h1,if_pos h1]; exact Did.err h hk
 rw [if_neg h1,if_neg h1]
 by_cases h0 : s.ino = 0
 ·rw [if_pos h0,if_pos h0]; exact Did.err h hk
 rw [if_neg h0,if_neg h0]
 by_cases he2 : er2 ≠ 0
 ·rw [if_pos he2,if_pos he2]; exact Did.err h hk
 rw [if_neg he2,if_neg he2]
 by_cases h12 : t.ino = 1
 ·rw [if_pos h12,if_pos h12]; exact Did.err h hk
 rw [if_neg h12,if_neg h12]
 by_cases hst : s.ino = t.ino
 ·rw [if_pos hst,if_pos hst.symm]; exact Did.err h hk
 rw [if_neg hst,if_neg (show ¬ t.ino = s.ino from fun q => hst q.symm)]
 obtain ⟨d,n,e,hs⟩ := sit_of h (hled (by omega)) h0 h1
 have ledt := hled2 (by omega)
 rw [hs.node,spot_k h hs.node]
 dsimp only
 rw [show (inoL π n).k = n.kind from rfl]
 by_cases hu : n.kind = 2 ∧ under (spl old).1 (spl path).1 = true
 ·rw [if_pos hu,if_pos hu]; exact Did.err h hk
 rw [if_neg hu,if_neg hu]
 have x4 : (spotOf F π s).node.k = n.kind := by rw [spot_k h hs.node]; rfl
 by_cases h02 : t.ino = 0
 ·have ec : clearAt F t (decide (n.kind = 2)) = (0,F) := if_pos h02
  have ev : clrB L (spotOf F π t) (decide (n.kind = 2)) = (0,[]) := if_pos h02
  rw [ec,ev]
  dsimp only
  rw [if_neg (fun q => q rfl),if_neg (fun q => q rfl)]
  obtain ⟨htnm,td,ht,tdk,hte⟩ := ledt.way.resolve_left (fun q => h12 q.2.2)
  rw [h02] at hte
  exact ⟨rfl,mov_st h hk hs ht tdk (no_entry h ht hte) htnm rfl rfl rfl x4 rfl rfl,fun q => absurd rfl q⟩
 ·obtain ⟨td,nt,et,hst2⟩ := sit_of h ledt h02 h12
  have c : Clr F π L k t nt (clrB L (spotOf F π t) (decide (n.kind = 2))) (clearAt F t (decide (n.kind = 2))) := by
   unfold clrB clearAt
   rw [hti,if_neg h02,if_neg h02]
   by_cases q : n.kind = 2
   ·rw [decide_eq_true q,if_pos rfl,if_pos rfl]; exact rem_clr h hst2
   ·rw [decide_eq_false q,if_neg (by decide),if_neg (by decide)]; exact unl_clr h hst2
  generalize clrB L (spotOf F π t) (decide (n.kind = 2)) = V at c ⊢
  generalize clearAt F t (decide (n.kind = 2)) = M at c ⊢
  rw [c.er]
  by_cases hM : M.1 ≠ 0
  ·rw [if_pos hM,if_pos hM]; exact Did.err h hk
  rw [if_neg hM,if_neg hM]
  have hV : V.1 = 0 := by rw [c.er]; omega
  obtain ⟨h2,hkept,hne⟩ := c.yes hV
  have a1 : s.dir ≠ t.ino := fun q => by
   have b := hs.dir
   rw [q,hst2.node] at b
   injection b with b
   have b2 := hs.me
   rw [← b,hne] at b2
   cases b2
  have a2 : t.dir ≠ t.ino := fun q => ne_dir hst2 hne q.symm
  obtain ⟨d',hd',kd',ed'⟩ := hkept s.dir d hs.dir a1
  obtain ⟨n',hn',kn',_⟩ := hkept s.ino n hs.node hst
  obtain ⟨td',htd',ktd',etd'⟩ := hkept t.dir td hst2.dir a2
  have a3 : ¬ (s.dir = t.dir ∧ e.name = t.name) := fun q => by
   have b := hs.dir
   rw [q.1,hst2.dir] at b
   injection b with b
   have b2 := hs.me
   rw [← b] at b2
   have b3 := ord_eq (h.ws.ord td (node_mem hst2.dir).1) b2 hst2.me (by rw [q.2,hst2.en])
   exact hst (by rw [← hs.ei,← hst2.ei,b3])
  have hs' : Sit M.2 s d' n' e := ⟨hd',by rw [kd']; exact hs.dk,hs.nm,(ed' e).2 ⟨hs.me,a3⟩,hs.en,hs.ei,hn',hs.i0,hs.i1,hs.i2⟩
  have mv := mov_st h2 hk hs' htd' (by rw [ktd']; exact hst2.dk) (fun z hz q => ((etd' z).1 hz).2 ⟨rfl,q⟩) hst2.nm (x := spotOf F π s) (y := spotOf F π t) rfl rfl rfl (by rw [x4,kn']) rfl rfl
  rw [kn',← out_app] at mv
  exact ⟨rfl,mv,fun q => absurd rfl q⟩
theorem lst_same (h : St F π L k) (path : ByteArray) : lstV L path = listF F path := by
 obtain ⟨hf,hled⟩ := h.sim.find path
 unfold lstV listF
 rw [hf]
 obtain ⟨⟨s,er⟩,hR⟩ : ∃ R,fndM F path = R := ⟨_,rfl⟩
 rw [hR] at hled ⊢
 dsimp only at hled ⊢
 by_cases he : er ≠ 0
 ·rw [if_pos he,if_pos he]
 rw [if_neg he,if_neg he]
 have hsi : (spotOf F π s).ino = s.ino := rfl
 rw [hsi]
 by_cases h0 : s.ino = 0
 ·rw [if_pos h0,if_pos h0]
 rw [if_neg h0,if_neg h0]
 obtain ⟨n,hn⟩ := (hled (by omega)).at_.resolve_left h0
 rw [hn,spot_k h hn]
 dsimp only
 rw [show (inoL π n).k = n.kind from rfl,h.sim.list h.rise h.gone hn]
end
end Go.Proofs.YtogdjbhjgbnicaaGreatDoor.OpsBb
namespace Go.Proofs.YtogdjbhjgbnicaaGreatDoor.OpsBc
open Byte KeysM TreeM ViewKm NamesM WalkM WalkF WalkKm DirsM DirsV DirsW DirsX DirsY OpsBs OpsBz OpsBa OpsBb DirsBm
open NodeM hiding gk
open ViewM hiding putP
open DirsS
open FileV OpsR OpsI OpsK OpsS OpsTa
open FileO (filM reaM wriM truM wri_same tru_same rea_same Dit fil_some fil_none wrD_size truD_size)
open OpsW (wrtD inoD_er)
open OpsV (clsD)
open DirsKc (leadM)
def leaM (F : Fs) (path : ByteArray) : Int × (Int × Int × Int) × Int :=
 if (fndM F path).2 ≠ 0 then (0,(0,0,0),(fndM F path).2) else if (fndM F path).1.ino = 0 then (0,(0,0,0),10) else match nodeM F (fndM F path).1.ino with
  | none => (0,(0,0,0),0)
  | some n => ((fndM F path).1.ino,(n.kind,n.links,(n.data.size : Int)),0)
def opnM (F : Fs) (hs : List Int) (path : ByteArray) : Int × Int × List Int :=
 if (leaM F path).2.2 ≠ 0 then ((leaM F path).2.2,0,hs) else if (leaM F path).2.1.1 ≠ 1 then (13,0,hs) else if fz hs < 0 then (20,0,hs) else (0,fz hs,hs.set (fz hs).toNat (leaM F path).1)
structure OutM where
 er : Int
 n : Int
 ys : List Int
 names : List ByteArray
 k : Int
 l : Int
 z : Int
 hs : List Int
 F : Fs
abbrev OutM.err (hs : List Int) (x : Int × Fs) : OutM := ⟨x.1,0,[],[],0,0,0,hs,x.2⟩
def outM (F : Fs) (hs : List Int) (o : Op20) (xs : List Int) (ino : Int) : OutM :=
 if o.kind = 4 then .err hs (makeM F o.path 1 ino) else if o.kind = 5 then .err hs (makeM F o.path 2 ino)
 else if o.kind = 6 then ⟨(opnM F hs o.path).1,(opnM F hs o.path).2.1,[],[],0,0,0,(opnM F hs o.path).2.2,F⟩
 else if o.kind = 7 then .err (clsD hs o.hn).2 ((clsD hs o.hn).1,F)
 else if o.kind = 8 then (if (inoD hs o.hn).2 = 0 then ⟨(reaM F (inoD hs o.hn).1 o.frm o.n).2,((reaM F (inoD hs o.hn).1 o.frm o.n).1.length : Int),(reaM F (inoD hs o.hn).1 o.frm o.n).1,[],0,0,0,hs,F⟩ else .err hs (16,F))
 else if o.kind = 9 then (if (inoD hs o.hn).2 = 0 then ⟨(wriM F (inoD hs o.hn).1 o.frm xs).1,o.dn,[],[],0,0,0,hs,(wriM F (inoD hs o.hn).1 o.frm xs).2⟩ else ⟨16,o.dn,[],[],0,0,0,hs,F⟩)
 else if o.kind = 10 then (if (inoD hs o.hn).2 = 0 then .err hs (truM F (inoD hs o.hn).1 o.n) else .err hs (16,F))
 else if o.kind = 11 then .err hs (renameM F o.path o.other) else if o.kind = 12 then .err hs (linkM F o.path o.other) else if o.kind = 13 then .err hs (unlinkM F o.path) else if o.kind = 14 then .err hs (removeM F o.path)
 else if o.kind = 15 then ⟨(listF F o.path).2,0,[],(listF F o.path).1,0,0,0,hs,F⟩
 else if o.kind = 16 then ⟨(leaM F o.path).2.2,0,[],[],(leaM F o.path).2.1.1,(leaM F o.path).2.1.2.1,(leaM F o.path).2.1.2.2,hs,F⟩
 else .err hs (28,F)
structure Dio (L : List Pr) (R : Out) (M : OutM) (k : Nat) : Prop where
 er : R.er = M.er
 n : R.n = M.n
 ys : R.ys = M.ys
 names : R.names = M.names
 kk : R.k = M.k
 l : R.l = M.l
 z : R.z = M.z
 hs : R.hs = M.hs
 st : ∃ π',St M.F π' (outW L R.ps) k
section
variable {F : Fs} {π : Int → Int} {L : List Pr} {k : Nat}
theorem lead_same (h : St F π L k) (path : ByteArray) : (leadM L path).1 = (leaM F path).1 ∧ (leadM L path).2.1.k = (leaM F path).2.1.1 ∧ (leadM L path).2.1.l = (leaM F path).2.1.2.1 ∧ (leadM L path).2.1.s = (leaM F path).2.1.2.2 ∧ (leadM L path).2.2 = (leaM F path).2.2 := by
 obtain ⟨hf,hled⟩ := h.sim.find path
 unfold leadM leaM
 rw [hf]
 obtain ⟨⟨s,er⟩,hR⟩ : ∃ R,fndM F path = R := ⟨_,rfl⟩
 rw [hR] at hled ⊢
 dsimp only at hled ⊢
 by_cases he : er ≠ 0
 ·rw [if_pos he,if_pos he]; exact ⟨rfl,rfl,rfl,rfl,rfl⟩
 rw [if_neg he,if_neg he]
 have hsi : (spotOf F π s).ino = s.ino := rfl
 rw [hsi]
 by_cases h0 : s.ino = 0
 ·rw [if_pos h0,if_pos h0]; exact ⟨rfl,rfl,rfl,rfl,rfl⟩
 rw [if_neg h0,if_neg h0]
 obtain ⟨n,hn⟩ := (hled (by omega)).at_.resolve_left h0
 rw [hn,spot_k h hn]
 exact ⟨rfl,rfl,rfl,rfl,rfl⟩
theorem Dio.did {hs : List Int} {V : Int × List Wrt} {M : Int × Fs} (d : Did L V M k) : Dio L (.err hs V) (.err hs M) k := ⟨d.er,rfl,rfl,rfl,rfl,rfl,rfl,rfl,d.st⟩
theorem Dio.look (h : St F π L k) {er n k1 l z : Int} {ys : List Int} {names : List ByteArray} {hs : List Int} (hk : k + 1 ≤ 900) : Dio L ⟨er,n,ys,names,k1,l,z,hs,[]⟩ ⟨er,n,ys,names,k1,l,z,hs,F⟩ (k + 1) := ⟨rfl,rfl,rfl,rfl,rfl,rfl,rfl,rfl,π,h.more (Nat.le_succ _) hk⟩
theorem dat_st (h : St F π L k) (hk : k + 1 ≤ 900) {V : Int × List Wrt} {M : Int × Fs} (d : Dit L π V M) (hm : M.2 = F ∨ ∃ x d,nodeM F x.ino = some x ∧ x.kind = 1 ∧ d.size ≤ 4096 ∧ M.2 = withM F { x with data := d }) : ∃ π',St M.2 π' (outW L V.2) (k + 1) := by
 refine ⟨π,⟨d.sim,?_,hk,rise_out _ h.rise,gone_out _ h.gone⟩⟩
 rcases hm with e | ⟨x,b,h1,h2,h3,e⟩
 ·rw [e]; exact h.ws.more (by omega) (Nat.le_succ _) (Nat.le_refl _)
 ·rw [e]; exact (h.ws.dat h1 h3 h2).more (by omega) (Nat.le_succ _) (Nat.le_refl _)
theorem wri_way (h : St F π L k) (ino a : Int) (b : List Int) : (wriM F ino a b).2 = F ∨ ∃ x d,nodeM F x.ino = some x ∧ x.kind = 1 ∧ d.size ≤ 4096 ∧ (wriM F ino a b).2 = withM F { x with data := d } := by
 unfold wriM
 cases hf : filM F ino with
 | none => exact .inl rfl
 | some x =>
   obtain ⟨h2,h3,h4,h5⟩ := fil_some hf
   have hxd := (h.sim.wf.data x h5).1
   dsimp only
   split
   ·exact .inl rfl
   ·split
    ·exact .inl rfl
    ·split
     ·exact .inl rfl
     ·exact .inr ⟨x,_,by rw [h4]; exact h2,h3,by rw [wrD_size]; omega,rfl⟩
theorem tru_way (h : St F π L k) (ino z : Int) : (truM F ino z).2 = F ∨ ∃ x d,nodeM F x.ino = some x ∧ x.kind = 1 ∧ d.size ≤ 4096 ∧ (truM F ino z).2 = withM F { x with data := d } := by
 unfold truM
 cases hf : filM F ino with
 | none => exact .inl rfl
 | some x =>
   obtain ⟨h2,h3,h4,h5⟩ := fil_some hf
   dsimp only
   split
   ·exact .inl rfl
   ·split
    ·exact .inl rfl
    ·exact .inr ⟨x,_,by rw [h4]; exact h2,h3,by rw [truD_size]; omega,rfl⟩
theorem out_same (h : St F π L k) (hk : k + 1 ≤ 900) {hs : List Int} (hb : ∀ x ∈ hs,0 ≤ x ∧ x ≤ 4294967295) (o : Op20) {xs : List Int} (hx : ∀ x ∈ xs,0 ≤ x ∧ x ≤ 255) {ino : Int} (i0 : 2 ≤ ino) (i1 : ino ≤ 4294967295) (hi : (o.kind = 4 ∨ o.kind = 5) → nodeM F ino = none) : Dio L (outO L hs o xs ino) (outM F hs o xs ino) (k + 1) := by
 have bi := inoD_bd hb o.hn
 have lk := fun {er n k1 l z : Int} {ys : List Int} {names : List ByteArray} {hs : List Int} => Dio.look (F := F) h (er := er) (n := n) (k1 := k1) (l := l) (z := z) (ys := ys) (names := names) (hs := hs) hk
 unfold outO outM
 by_cases c4 : o.kind = 4
 ·rw [if_pos c4,if_pos c4]; exact Dio.did (make_did h hk o.path i0 i1 (hi (.inl c4)))
 rw [if_neg c4,if_neg c4]
 by_cases c5 : o.kind = 5
 ·rw [if_pos c5,if_pos c5]; exact Dio.did (make_did h hk o.path i0 i1 (hi (.inr c5)))
 rw [if_neg c5,if_neg c5]
 by_cases c6 : o.kind = 6
 ·rw [if_pos c6,if_pos c6]
  obtain ⟨e1,e2,_,_,e3⟩ := lead_same h o.path
  have e : opnV L hs o.path = opnM F hs o.path := by unfold opnV opnM; rw [e1,e2,e3]
  rw [e]; exact lk
 rw [if_neg c6,if_neg c6]
 by_cases c7 : o.kind = 7
 ·rw [if_pos c7,if_pos c7]; exact lk
 rw [if_neg c7,if_neg c7]
 by_cases c8 : o.kind = 8
 ·rw [if_pos c8,if_pos c8]
  by_cases hn : (inoD hs o.hn).2 = 0
  ·rw [if_pos hn,if_pos hn,rea_same h.sim bi.1 bi.2]; exact lk
  ·rw [if_neg hn,if_neg hn]; exact lk
 rw [if_neg c8,if_neg c8]
 by_cases c9 : o.kind = 9
 ·rw [if_pos c9,if_pos c9]
  unfold wrtD
  by_cases hn : (inoD hs o.hn).2 = 0
  ·rw [if_pos hn,if_pos hn]
   have d := wri_same h.sim h.rise bi.1 bi.2 o.frm xs hx
   exact ⟨d.er,rfl,rfl,rfl,rfl,rfl,rfl,rfl,dat_st h hk d (wri_way h _ _ _)⟩
  ·rw [if_neg hn,if_neg hn]; exact lk
 rw [if_neg c9,if_neg c9]
 by_cases c10 : o.kind = 10
 ·rw [if_pos c10,if_pos c10]
  unfold OpsV.truD
  by_cases hn : (inoD hs o.hn).2 = 0
  ·rw [if_pos hn,if_pos hn]
   have d := tru_same h.sim h.rise bi.1 bi.2 o.n
   exact ⟨d.er,rfl,rfl,rfl,rfl,rfl,rfl,rfl,dat_st h hk d (tru_way h _ _)⟩
  ·rw [if_neg hn,if_neg hn]; exact lk
 rw [if_neg c10,if_neg c10]
 by_cases c11 : o.kind = 11
 ·rw [if_pos c11,if_pos c11]; exact Dio.did (ren_did h hk o.path o.other)
 rw [if_neg c11,if_neg c11]
 by_cases c12 : o.kind = 12
 ·rw [if_pos c12,if_pos c12]; exact Dio.did (lnk_did h hk o.path o.other)
 rw [if_neg c12,if_neg c12]
 by_cases c13 : o.kind = 13
 ·rw [if_pos c13,if_pos c13]; exact Dio.did (ulk_did h hk o.path)
 rw [if_neg c13,if_neg c13]
 by_cases c14 : o.kind = 14
 ·rw [if_pos c14,if_pos c14]; exact Dio.did (rmd_did h hk o.path)
 rw [if_neg c14,if_neg c14]
 by_cases c15 : o.kind = 15
 ·rw [if_pos c15,if_pos c15,lst_same h o.path]; exact lk
 rw [if_neg c15,if_neg c15]
 by_cases c16 : o.kind = 16
 ·rw [if_pos c16,if_pos c16]
  obtain ⟨_,e2,e3,e4,e5⟩ := lead_same h o.path
  rw [e2,e3,e4,e5]; exact lk
 rw [if_neg c16,if_neg c16]
 exact lk
end
end Go.Proofs.YtogdjbhjgbnicaaGreatDoor.OpsBc
namespace Go.Proofs.YtogdjbhjgbnicaaGreatDoor.OpsBd
open NamesM DirsM OpsR OpsI OpsK OpsBc
open FileO (filM reaM wriM truM)
open OpsV (clsD)
structure Ren (ρ : Int → Int) : Prop where
 inj : ∀ a b,ρ a = ρ b → a = b
 zero : ρ 0 = 0
 one : ρ 1 = 1
def re (ρ : Int → Int) (e : En) : En := ⟨e.name,ρ e.ino⟩
def rn (ρ : Int → Int) (n : Nd) : Nd := ⟨ρ n.ino,n.kind,n.links,n.data,n.ents.map (re ρ)⟩
def rf (ρ : Int → Int) (F : Fs) : Fs := F.map (rn ρ)
def rs (ρ : Int → Int) (s : Spt) : Spt := ⟨ρ s.dir,s.name,ρ s.ino⟩
def rM (ρ : Int → Int) (M : OutM) : OutM := { M with hs := M.hs.map ρ,F := rf ρ M.F }
section
variable {ρ : Int → Int} {F : Fs}
theorem Ren.iff (h : Ren ρ) (a b : Int) : ρ a = ρ b ↔ a = b := ⟨h.inj a b,fun e => by rw [e]⟩
theorem Ren.iff0 (h : Ren ρ) (a : Int) : ρ a = 0 ↔ a = 0 := by
 have := h.iff a 0
 rw [h.zero] at this
 exact this
theorem Ren.iff1 (h : Ren ρ) (a : Int) : ρ a = 1 ↔ a = 1 := by
 have := h.iff a 1
 rw [h.one] at this
 exact this
theorem node_ren (h : Ren ρ) (F : Fs) (i : Int) : nodeM (rf ρ F) (ρ i) = (nodeM F i).map (rn ρ) := by
 unfold nodeM rf
 rw [List.find?_map]
 congr 2
 funext n
 show decide (ρ n.ino = ρ i) = decide (n.ino = i)
 simp only [h.iff]
theorem with_l (h : Ren ρ) (n : Nd) : ∀ (F : Fs) (d : Bool),withL (rn ρ n) d (rf ρ F) = rf ρ (withL n d F)
 | [],d => by cases d <;> rfl
 | x :: r,d => by
   show (if (rn ρ x).ino = (rn ρ n).ino then rn ρ n :: withL (rn ρ n) true (rf ρ r) else rn ρ x :: withL (rn ρ n) d (rf ρ r)) = rf ρ (if x.ino = n.ino then n :: withL n true r else x :: withL n d r)
   rw [with_l h n r true,with_l h n r d]
   by_cases e : x.ino = n.ino
   ·rw [if_pos e,if_pos (show (rn ρ x).ino = (rn ρ n).ino from congrArg ρ e)]; rfl
   ·rw [if_neg e,if_neg (show ¬ (rn ρ x).ino = (rn ρ n).ino from fun q => e (h.inj _ _ q))]; rfl
theorem with_ren (h : Ren ρ) (F : Fs) (n : Nd) : withM (rf ρ F) (rn ρ n) = rf ρ (withM F n) := with_l h n F false
theorem wo_ren (h : Ren ρ) (F : Fs) (i : Int) : withoutM (rf ρ F) (ρ i) = rf ρ (withoutM F i) := by
 unfold withoutM rf
 rw [List.filter_map]
 congr 2
 funext n
 show (!decide (ρ n.ino = ρ i)) = !decide (n.ino = i)
 simp only [h.iff]
theorem entry_ren (h : Ren ρ) (n : Nd) (nm : ByteArray) : entryM (rn ρ n) nm = ρ (entryM n nm) := by
 unfold entryM
 show (match (n.ents.map (re ρ)).find? (fun e => decide (e.name = nm)) with | some e => e.ino | none => 0) = _
 rw [List.find?_map,show ((fun e => decide (e.name = nm)) ∘ re ρ) = (fun e : En => decide (e.name = nm)) from rfl]
 cases n.ents.find? (fun e => decide (e.name = nm)) with
 | none => exact h.zero.symm
 | some e => rfl
theorem ins_ren (nm : ByteArray) (i : Int) : ∀ (l : List En) (d : Bool),insE nm (ρ i) d (l.map (re ρ)) = (insE nm i d l).map (re ρ)
 | [],d => by cases d <;> rfl
 | e :: r,d => by
   show (if !d && !TreeM.kl e.name nm then [(⟨nm,ρ i⟩ : En)] else []) ++ (if e.name = nm then [] else [re ρ e]) ++ insE nm (ρ i) (d || !TreeM.kl e.name nm) (r.map (re ρ)) = _
   rw [ins_ren nm i r]
   show _ = List.map (re ρ) ((if !d && !TreeM.kl e.name nm then [(⟨nm,i⟩ : En)] else []) ++ (if e.name = nm then [] else [e]) ++ insE nm i (d || !TreeM.kl e.name nm) r)
   rw [List.map_append,List.map_append]
   congr 2
   ·split <;> rfl
   ·split <;> rfl
theorem dec0 (h : Ren ρ) (i : Int) : decide (ρ i = 0) = decide (i = 0) := by simp only [h.iff0]
theorem named_ren (h : Ren ρ) (F : Fs) (d : Int) (nm : ByteArray) (i : Int) : namedM (rf ρ F) (ρ d) nm (ρ i) = rf ρ (namedM F d nm i) := by
 unfold namedM
 rw [node_ren h]
 cases nodeM F d with
 | none => rfl
 | some n =>
   show withM (rf ρ F) ⟨ρ n.ino,n.kind,n.links,n.data,insE nm (ρ i) (decide (ρ i = 0)) (n.ents.map (re ρ))⟩ = rf ρ (withM F { n with ents := insE nm i (decide (i = 0)) n.ents })
   rw [dec0 h,ins_ren,← with_ren h]
   rfl
theorem named0_ren (h : Ren ρ) (F : Fs) (d : Int) (nm : ByteArray) : namedM (rf ρ F) (ρ d) nm 0 = rf ρ (namedM F d nm 0) := by
 have := named_ren h F d nm 0
 rw [h.zero] at this
 exact this
theorem linked_ren (h : Ren ρ) (F : Fs) (i y : Int) : linkedM (rf ρ F) (ρ i) y = rf ρ (linkedM F i y) := by
 unfold linkedM
 rw [node_ren h]
 cases nodeM F i with
 | none => rfl
 | some n =>
   show withM (rf ρ F) (rn ρ { n with links := n.links + y }) = rf ρ (withM F { n with links := n.links + y })
   rw [with_ren h]
theorem rs0 (h : Ren ρ) : rs ρ spt0 = spt0 := by unfold rs spt0; rw [h.zero]
theorem fnd_l (h : Ren ρ) (F : Fs) : ∀ (l : List ByteArray) (x : Spt),fndL (rf ρ F) (rs ρ x) l = (rs ρ (fndL F x l).1,(fndL F x l).2)
 | [],x => rfl
 | nm :: r,x => by
   unfold fndL
   rw [show (rs ρ x).ino = ρ x.ino from rfl,node_ren h]
   by_cases h0 : x.ino = 0
   ·rw [if_pos ((h.iff0 _).2 h0),if_pos h0,rs0 h]
   rw [if_neg (fun q => h0 ((h.iff0 _).1 q)),if_neg h0]
   cases nodeM F x.ino with
   | none => show (spt0,(0 : Int)) = (rs ρ spt0,0); rw [rs0 h]
   | some n =>
     show (if n.kind ≠ 2 then (spt0,(12 : Int)) else fndL (rf ρ F) ⟨ρ x.ino,nm,entryM (rn ρ n) nm⟩ r) = _
     dsimp only
     by_cases hk : n.kind ≠ 2
     ·rw [if_pos hk,if_pos hk]; show (spt0,(12 : Int)) = (rs ρ spt0,12); rw [rs0 h]
     ·rw [if_neg hk,if_neg hk,entry_ren h]
      exact fnd_l h F r ⟨x.ino,nm,entryM n nm⟩
theorem fnd_ren (h : Ren ρ) (F : Fs) (path : ByteArray) : fndM (rf ρ F) path = (rs ρ (fndM F path).1,(fndM F path).2) := by
 unfold fndM
 by_cases hs : (spl path).2 ≠ 0
 ·rw [if_pos hs,if_pos hs]
  show (spt0,(spl path).2) = (rs ρ spt0,(spl path).2)
  rw [rs0 h]
 ·rw [if_neg hs,if_neg hs]
  have := fnd_l h F (spl path).1 ⟨0,NE,1⟩
  rw [show rs ρ ⟨0,NE,1⟩ = ⟨0,NE,1⟩ by unfold rs; rw [h.zero,h.one]] at this
  exact this
def r2 (ρ : Int → Int) (x : Int × Fs) : Int × Fs := (x.1,rf ρ x.2)
theorem make_ren (h : Ren ρ) (F : Fs) (path : ByteArray) (kind ino : Int) : makeM (rf ρ F) path kind (ρ ino) = r2 ρ (makeM F path kind ino) := by
 unfold makeM
 rw [fnd_ren h]
 obtain ⟨⟨s,er⟩,hR⟩ : ∃ R,fndM F path = R := ⟨_,rfl⟩
 rw [hR]
 dsimp only
 by_cases h1 : er ≠ 0
 ·rw [if_pos h1,if_pos h1]; rfl
 rw [if_neg h1,if_neg h1,show (rs ρ s).ino = ρ s.ino from rfl]
 by_cases h2 : s.ino ≠ 0
 ·rw [if_pos h2,if_pos (fun q => h2 ((h.iff0 _).1 q))]; rfl
 rw [if_neg h2,if_neg (fun q => h2 (fun e => q ((h.iff0 _).2 e)))]
 show ((0 : Int),makeAt (rf ρ F) (rs ρ s) kind (ρ ino)) = (0,rf ρ (makeAt F s kind ino))
 congr 1
 unfold makeAt
 show namedM (if kind = 1 then withM (rf ρ F) (rn ρ ⟨ino,1,1,NE,[]⟩) else linkedM (withM (rf ρ F) (rn ρ ⟨ino,2,2,NE,[]⟩)) (ρ s.dir) 1) (ρ s.dir) s.name (ρ ino) = _
 rw [with_ren h,with_ren h,linked_ren h]
 by_cases hk : kind = 1
 ·rw [if_pos hk,if_pos hk,named_ren h]
 ·rw [if_neg hk,if_neg hk,named_ren h]
theorem rema_ren (h : Ren ρ) (F : Fs) (s : Spt) : removeAt (rf ρ F) (rs ρ s) = r2 ρ (removeAt F s) := by
 unfold removeAt
 rw [show (rs ρ s).ino = ρ s.ino from rfl,node_ren h]
 cases nodeM F s.ino with
 | none => rfl
 | some n =>
   show (if n.kind ≠ 2 then ((12 : Int),rf ρ F) else if (n.ents.map (re ρ)).length ≠ 0 then (14,rf ρ F) else (0,namedM (linkedM (withoutM (rf ρ F) (ρ s.ino)) (ρ s.dir) (-1)) (ρ s.dir) s.name 0)) = _
   rw [List.length_map,wo_ren h,linked_ren h,named0_ren h]
   dsimp only
   by_cases h1 : n.kind ≠ 2
   ·rw [if_pos h1,if_pos h1]; rfl
   rw [if_neg h1,if_neg h1]
   by_cases h2 : n.ents.length ≠ 0
   ·rw [if_pos h2,if_pos h2]; rfl
   rw [if_neg h2,if_neg h2]
   rfl
theorem unla_ren (h : Ren ρ) (F : Fs) (s : Spt) : unlinkAt (rf ρ F) (rs ρ s) = r2 ρ (unlinkAt F s) := by
 unfold unlinkAt
 rw [show (rs ρ s).ino = ρ s.ino from rfl,node_ren h]
 cases nodeM F s.ino with
 | none => rfl
 | some n =>
   show (if n.kind = 2 then ((13 : Int),rf ρ F) else (0,namedM (if n.links = 1 then withoutM (rf ρ F) (ρ s.ino) else linkedM (rf ρ F) (ρ s.ino) (-1)) (ρ s.dir) s.name 0)) = _
   rw [wo_ren h,linked_ren h]
   dsimp only
   by_cases h1 : n.kind = 2
   ·rw [if_pos h1,if_pos h1]; rfl
   rw [if_neg h1,if_neg h1]
   by_cases h2 : n.links = 1
   ·rw [if_pos h2,if_pos h2,named0_ren h]; rfl
   ·rw [if_neg h2,if_neg h2,named0_ren h]; rfl
theorem remove_ren (h : Ren ρ) (F : Fs) (path : ByteArray) : removeM (rf ρ F) path = r2 ρ (removeM F path) := by
 unfold removeM
 rw [fnd_ren h]
 obtain ⟨⟨s,er⟩,hR⟩ : ∃ R,fndM F path = R := ⟨_,rfl⟩
 rw [hR]
 dsimp only
 rw [rema_ren h,show (rs ρ s).ino = ρ s.ino from rfl]
 simp only [ne_eq,h.iff0,h.iff1]
 repeat' split
 all_goals first | rfl | contradiction
theorem unlink_ren (h : Ren ρ) (F : Fs) (path : ByteArray) : unlinkM (rf ρ F) path = r2 ρ (unlinkM F path) := by
 unfold unlinkM
 rw [fnd_ren h]
 obtain ⟨⟨s,er⟩,hR⟩ : ∃ R,fndM F path = R := ⟨_,rfl⟩
 rw [hR]
 dsimp only
 rw [unla_ren h,show (rs ρ s).ino = ρ s.ino from rfl]
 simp only [ne_eq,h.iff0]
 repeat' split
 all_goals first | rfl | contradiction
theorem list_ren (h : Ren ρ) (F : Fs) (path : ByteArray) : listF (rf ρ F) path = listF F path := by
 unfold listF
 rw [fnd_ren h]
 obtain ⟨⟨s,er⟩,hR⟩ : ∃ R,fndM F path = R := ⟨_,rfl⟩
 rw [hR]
 dsimp only
 rw [show (rs ρ s).ino = ρ s.ino from rfl,node_ren h]
 cases nodeM F s.ino with
 | none =>
   dsimp only [Option.map_none]
   simp only [ne_eq,h.iff0]
 | some n =>
   dsimp only [Option.map_some,rn]
   simp only [ne_eq,h.iff0,List.map_map]
   rfl
theorem link_ren (h : Ren ρ) (F : Fs) (old path : ByteArray) : linkM (rf ρ F) old path = r2 ρ (linkM F old path) := by
 unfold linkM
 rw [fnd_ren h,fnd_ren h]
 obtain ⟨⟨s,er⟩,hR⟩ : ∃ R,fndM F old = R := ⟨_,rfl⟩
 obtain ⟨⟨t,er2⟩,hR2⟩ : ∃ R,fndM F path = R := ⟨_,rfl⟩
 rw [hR,hR2]
 dsimp only
 rw [show (rs ρ s).ino = ρ s.ino from rfl,show (rs ρ t).ino = ρ t.ino from rfl,show (rs ρ t).dir = ρ t.dir from rfl,show (rs ρ t).name = t.name from rfl,node_ren h,linked_ren h,named_ren h]
 cases nodeM F s.ino with
 | none =>
   dsimp only [Option.map_none]
   simp only [ne_eq,h.iff0]
   repeat' split
   all_goals first | rfl | contradiction
 | some n =>
   dsimp only [Option.map_some,rn]
   simp only [ne_eq,h.iff0]
   repeat' split
   all_goals first | rfl | contradiction
theorem clear_ren (h : Ren ρ) (F : Fs) (t : Spt) (d : Bool) : clearAt (rf ρ F) (rs ρ t) d = r2 ρ (clearAt F t d) := by
 unfold clearAt
 rw [rema_ren h,unla_ren h,show (rs ρ t).ino = ρ t.ino from rfl]
 simp only [ne_eq,h.iff0]
 repeat' split
 all_goals first | rfl | contradiction
theorem move_ren (h : Ren ρ) (F : Fs) (s t : Spt) (d : Bool) : moveAt (rf ρ F) (rs ρ s) (rs ρ t) d = rf ρ (moveAt F s t d) := by
 unfold moveAt
 show (if d then linkedM (linkedM (namedM (namedM (rf ρ F) (ρ s.dir) s.name 0) (ρ t.dir) t.name (ρ s.ino)) (ρ s.dir) (-1)) (ρ t.dir) 1 else namedM (namedM (rf ρ F) (ρ s.dir) s.name 0) (ρ t.dir) t.name (ρ s.ino)) = _
 rw [named0_ren h,named_ren h,linked_ren h,linked_ren h]
 cases d <;> rfl
theorem rename_ren (h : Ren ρ) (F : Fs) (old path : ByteArray) : renameM (rf ρ F) old path = r2 ρ (renameM F old path) := by
 unfold renameM
 rw [fnd_ren h,fnd_ren h]
 obtain ⟨⟨s,er⟩,hR⟩ : ∃ R,fndM F old = R := ⟨_,rfl⟩
 obtain ⟨⟨t,er2⟩,hR2⟩ : ∃ R,fndM F path = R := ⟨_,rfl⟩
 rw [hR,hR2]
 dsimp only
 rw [show (rs ρ s).ino = ρ s.ino from rfl,show (rs ρ t).ino = ρ t.ino from rfl,node_ren h]
 cases nodeM F s.ino with
 | none =>
   dsimp only [Option.map_none]
   simp only [ne_eq,h.iff0,h.iff1,h.iff]
   repeat' split
   all_goals first | rfl | contradiction
 | some n =>
   dsimp only [Option.map_some,rn]
   rw [clear_ren h,show (r2 ρ (clearAt F t (decide (n.kind = 2)))).1 = (clearAt F t (decide (n.kind = 2))).1 from rfl,show (r2 ρ (clearAt F t (decide (n.kind = 2)))).2 = rf ρ (clearAt F t (decide (n.kind = 2))).2 from rfl,move_ren h]
   simp only [ne_eq,h.iff0,h.iff1,h.iff]
   repeat' split
   all_goals first | rfl | contradiction
theorem lea_ren (h : Ren ρ) (F : Fs) (path : ByteArray) : leaM (rf ρ F) path = (ρ (leaM F path).1,(leaM F path).2) := by
 unfold leaM
 rw [fnd_ren h]
 obtain ⟨⟨s,er⟩,hR⟩ : ∃ R,fndM F path = R := ⟨_,rfl⟩
 rw [hR]
 dsimp only
 rw [show (rs ρ s).ino = ρ s.ino from rfl,node_ren h]
 simp only [h.iff0]
 by_cases h1 : er ≠ 0
 ·rw [if_pos h1,if_pos h1,h.zero]
 rw [if_neg h1,if_neg h1]
 by_cases h2 : s.ino = 0
 ·rw [if_pos h2,if_pos h2,h.zero]
 rw [if_neg h2,if_neg h2]
 cases nodeM F s.ino with
 | none => show ((0 : Int),((0 : Int),(0 : Int),(0 : Int)),(0 : Int)) = (ρ 0,_); rw [h.zero]
 | some n => rfl
theorem fil_ren (h : Ren ρ) (F : Fs) (i : Int) : filM (rf ρ F) (ρ i) = (filM F i).map (rn ρ) := by
 unfold filM
 rw [node_ren h]
 cases nodeM F i with
 | none => rfl
 | some n =>
   show (some (rn ρ n)).filter (fun n => decide (n.kind = 1)) = ((some n).filter (fun n => decide (n.kind = 1))).map (rn ρ)
   rw [Option.filter_some,Option.filter_some]
   show (if decide (n.kind = 1) = true then some (rn ρ n) else none) = (if decide (n.kind = 1) = true then some n else none).map (rn ρ)
   split <;> rfl
theorem rea_ren (h : Ren ρ) (F : Fs) (i a n : Int) : reaM (rf ρ F) (ρ i) a n = reaM F i a n := by
 unfold reaM
 rw [fil_ren h]
 cases filM F i <;> rfl
theorem wri_ren (h : Ren ρ) (F : Fs) (i a : Int) (b : List Int) : wriM (rf ρ F) (ρ i) a b = r2 ρ (wriM F i a b) := by
 unfold wriM
 rw [fil_ren h]
 cases filM F i with
 | none => rfl
 | some x =>
   show (if a < 0 ∨ 1024 < b.length then ((15 : Int),rf ρ F) else if 4096 - (b.length : Int) < a then (19,rf ρ F) else if b.length = 0 then (0,rf ρ F) else (0,withM (rf ρ F) (rn ρ { x with data := FileO.wrD x.data a.toNat b }))) = _
   rw [with_ren h]
   dsimp only
   repeat' split
   all_goals first | rfl | contradiction
theorem tru_ren (h : Ren ρ) (F : Fs) (i z : Int) : truM (rf ρ F) (ρ i) z = r2 ρ (truM F i z) := by
 unfold truM
 rw [fil_ren h]
 cases filM F i with
 | none => rfl
 | some x =>
   show (if z < 0 then ((15 : Int),rf ρ F) else if 4096 < z then (19,rf ρ F) else (0,withM (rf ρ F) (rn ρ { x with data := FileO.truD x.data z.toNat }))) = _
   rw [with_ren h]
   dsimp only
   repeat' split
   all_goals first | rfl | contradiction
theorem getD_ren (h : Ren ρ) (hs : List Int) (j : Nat) : (hs.map ρ).getD j 0 = ρ (hs.getD j 0) := by
 rw [List.getD_eq_getElem?_getD,List.getD_eq_getElem?_getD,List.getElem?_map]
 cases hs[j]? with
 | none => exact h.zero.symm
 | some x => rfl
theorem ino_ren (h : Ren ρ) (hs : List Int) (hn : Int) : inoD (hs.map ρ) hn = (ρ (inoD hs hn).1,(inoD hs hn).2) := by
 unfold inoD
 rw [getD_ren h]
 simp only [h.iff0]
 repeat' split
 all_goals first | rfl | exact congrArg (fun x => (x,(16 : Int))) h.zero.symm
theorem fz_ren (h : Ren ρ) (hs : List Int) : fz (hs.map ρ) = fz hs := by
 unfold fz
 rw [List.findIdx_map,List.length_map]
 have e : ((fun x : Int => x == 0) ∘ ρ) = fun x : Int => x == 0 := by
  funext x
  show (ρ x == 0) = (x == 0)
  rw [Bool.eq_iff_iff,beq_iff_eq,beq_iff_eq,h.iff0]
 rw [e]
theorem opn_ren (h : Ren ρ) (F : Fs) (hs : List Int) (path : ByteArray) : opnM (rf ρ F) (hs.map ρ) path = ((opnM F hs path).1,(opnM F hs path).2.1,(opnM F hs path).2.2.map ρ) := by
 unfold opnM
 rw [lea_ren h,fz_ren h]
 dsimp only
 repeat' split
 all_goals first | rfl | (rw [List.map_set])
theorem cls_ren (h : Ren ρ) (hs : List Int) (hn : Int) : clsD (hs.map ρ) hn = ((clsD hs hn).1,(clsD hs hn).2.map ρ) := by
 unfold clsD
 rw [ino_ren h]
 dsimp only
 split
 ·rw [List.map_set,h.zero]
 ·rfl
theorem out_ren (h : Ren ρ) (F : Fs) (hs : List Int) (o : Op20) (xs : List Int) (ino : Int) : outM (rf ρ F) (hs.map ρ) o xs (ρ ino) = rM ρ (outM F hs o xs ino) := by
 unfold outM
 rw [make_ren h,make_ren h,opn_ren h,cls_ren h,ino_ren h,rea_ren h,wri_ren h,tru_ren h,rename_ren h,link_ren h,unlink_ren h,remove_ren h,list_ren h,lea_ren h]
 dsimp only
 by_cases c4 : o.kind = 4
 ·rw [if_pos c4,if_pos c4]; rfl
 rw [if_neg c4,if_neg c4]
 by_cases c5 : o.kind = 5
 ·rw [if_pos c5,if_pos c5]; rfl
 rw [if_neg c5,if_neg c5]
 by_cases c6 : o.kind = 6
 ·rw [if_pos c6,if_pos c6]; rfl
 rw [if_neg c6,if_neg c6]
 by_cases c7 : o.kind = 7
 ·rw [if_pos c7,if_pos c7]; rfl
 rw [if_neg c7,if_neg c7]
 by_cases c8 : o.kind = 8
 ·rw [if_pos c8,if_pos c8]
  by_cases hn : (inoD hs o.hn).2 = 0
  ·rw [if_pos hn,if_pos hn]; rfl
  ·rw [if_neg hn,if_neg hn]; rfl
 rw [if_neg c8,if_neg c8]
 by_cases c9 : o.kind = 9
 ·rw [if_pos c9,if_pos c9]
  by_cases hn : (inoD hs o.hn).2 = 0
  ·rw [if_pos hn,if_pos hn]; rfl
  ·rw [if_neg hn,if_neg hn]; rfl
 rw [if_neg c9,if_neg c9]
 by_cases c10 : o.kind = 10
 ·rw [if_pos c10,if_pos c10]
  by_cases hn : (inoD hs o.hn).2 = 0
  ·rw [if_pos hn,if_pos hn]; rfl
  ·rw [if_neg hn,if_neg hn]; rfl
 rw [if_neg c10,if_neg c10]
 by_cases c11 : o.kind = 11
 ·rw [if_pos c11,if_pos c11]; rfl
 rw [if_neg c11,if_neg c11]
 by_cases c12 : o.kind = 12
 ·rw [if_pos c12,if_pos c12]; rfl
 rw [if_neg c12,if_neg c12]
 by_cases c13 : o.kind = 13
 ·rw [if_pos c13,if_pos c13]; rfl
 rw [if_neg c13,if_neg c13]
 by_cases c14 : o.kind = 14
 ·rw [if_pos c14,if_pos c14]; rfl
 rw [if_neg c14,if_neg c14]
 by_cases c15 : o.kind = 15
 ·rw [if_pos c15,if_pos c15]; rfl
 rw [if_neg c15,if_neg c15]
 by_cases c16 : o.kind = 16
 ·rw [if_pos c16,if_pos c16]; rfl
 rw [if_neg c16,if_neg c16]
 rfl
end
end Go.Proofs.YtogdjbhjgbnicaaGreatDoor.OpsBd
namespace Go.Proofs.YtogdjbhjgbnicaaGreatDoor.OpsBe
open Byte KeysM TreeM ViewKm NamesM WalkM WalkF DirsM DirsV DirsW DirsY OpsBs OpsBz OpsBc OpsBd OpsR OpsE OpsTa
open DirsX hiding gk
open ViewM hiding putP
open DirsS
open FileO (wriM truM filM)
def InB (b : Int) (F : Fs) : Prop := ∀ n ∈ F,n.ino ≤ b
section
variable {F : Fs} {b : Int}
theorem mem_withL (n : Nd) : ∀ (f : Fs) (d : Bool) {x : Nd},x ∈ withL n d f → x = n ∨ x ∈ f
 | [],d,x,h => by
   unfold withL at h
   split at h
   ·cases h
   ·exact .inl (List.mem_singleton.1 h)
 | y :: r,d,x,h => by
   unfold withL at h
   split at h
   ·rcases List.mem_cons.1 h with h | h
    ·exact .inl h
    ·rcases mem_withL n r true h with h | h
     ·exact .inl h
     ·exact .inr (List.mem_cons_of_mem _ h)
   ·rcases List.mem_cons.1 h with h | h
    ·exact .inr (by rw [h]; exact List.mem_cons_self)
    ·rcases mem_withL n r d h with h | h
     ·exact .inl h
     ·exact .inr (List.mem_cons_of_mem _ h)
theorem InB.with_ (h : InB b F) {n : Nd} (hn : n.ino ≤ b) : InB b (withM F n) := fun x hx => by
 rcases mem_withL n F false hx with rfl | hx
 ·exact hn
 ·exact h x hx
theorem InB.wo (h : InB b F) (i : Int) : InB b (withoutM F i) := fun x hx => h x (mem_wo.1 hx).1
theorem InB.named (h : InB b F) (d : Int) (nm : ByteArray) (i : Int) : InB b (namedM F d nm i) := by
 unfold namedM
 split
 ·rename_i n hn
  exact h.with_ (h n (node_mem hn).1)
 ·exact h
theorem InB.linked (h : InB b F) (i y : Int) : InB b (linkedM F i y) := by
 unfold linkedM
 split
 ·rename_i n hn
  exact h.with_ (h n (node_mem hn).1)
 ·exact h
theorem InB.make (h : InB b F) (path : ByteArray) (kind : Int) {ino : Int} (hi : ino ≤ b) : InB b (makeM F path kind ino).2 := by
 unfold makeM
 split
 ·exact h
 ·split
  ·exact h
  ·unfold makeAt
   refine InB.named ?_ _ _ _
   split
   ·exact h.with_ hi
   ·exact (h.with_ (n := ⟨ino,2,2,NE,[]⟩) hi).linked _ _
theorem InB.remAt (h : InB b F) (s : Spt) : InB b (removeAt F s).2 := by
 unfold removeAt
 split
 ·exact h
 ·split
  ·exact h
  ·split
   ·exact h
   ·exact ((h.wo _).linked _ _).named _ _ _
theorem InB.unlAt (h : InB b F) (s : Spt) : InB b (unlinkAt F s).2 := by
 unfold unlinkAt
 split
 ·exact h
 ·split
  ·exact h
  ·refine InB.named ?_ _ _ _
   split
   ·exact h.wo _
   ·exact h.linked _ _
theorem InB.rem (h : InB b F) (path : ByteArray) : InB b (removeM F path).2 := by
 unfold removeM
 split
 ·exact h
 ·split
  ·exact h
  ·split
   ·exact h
   ·exact h.remAt _
theorem InB.unl (h : InB b F) (path : ByteArray) : InB b (unlinkM F path).2 := by
 unfold unlinkM
 split
 ·exact h
 ·split
  ·exact h
  ·exact h.unlAt _
theorem InB.lnk (h : InB b F) (old path : ByteArray) : InB b (linkM F old path).2 := by
 unfold linkM
 split
 ·exact h
 ·split
  ·exact h
  ·split
   ·exact h
   ·split
    ·exact h
    ·split
     ·exact h
     ·split
      ·exact h
      ·split
       ·exact h
       ·exact (h.linked _ _).named _ _ _
theorem InB.clr (h : InB b F) (t : Spt) (dir : Bool) : InB b (clearAt F t dir).2 := by
 unfold clearAt
 split
 ·exact h
 ·split
  ·exact h.remAt _
  ·exact h.unlAt _
theorem InB.mov (h : InB b F) (s t : Spt) (dir : Bool) : InB b (moveAt F s t dir) := by
 unfold moveAt
 split
 ·exact (((h.named _ _ _).named _ _ _).linked _ _).linked _ _
 ·exact (h.named _ _ _).named _ _ _
theorem InB.ren (h : InB b F) (old path : ByteArray) : InB b (renameM F old path).2 := by
 unfold renameM
 split
 ·exact h
 ·split
  ·exact h
  ·split
   ·exact h
   ·split
    ·exact h
    ·split
     ·exact h
     ·split
      ·exact h
      ·split
       ·exact h
       ·split
        ·exact h
        ·split
         ·exact h
         ·exact (h.clr _ _).mov _ _ _
end
def F0 : Fs := [⟨1,2,2,NE,[]⟩]
theorem node0 (j : Int) : nodeM F0 j = if j = 1 then some ⟨1,2,2,NE,[]⟩ else none := by
 unfold nodeM F0
 by_cases h : j = 1
 ·rw [if_pos h,List.find?_cons,decide_eq_true (by show (1 : Int) = j; omega)]
 ·rw [if_neg h,List.find?_cons,decide_eq_false (by show ¬ (1 : Int) = j; omega)]
  rfl
theorem mem0 {n : Nd} (h : n ∈ F0) : n = ⟨1,2,2,NE,[]⟩ := List.mem_singleton.1 h
theorem st0 : St F0 (fun _ => 1) [] 0 := by
 have no : ∀ n ∈ F0,∀ e ∈ n.ents,False := fun n hn e he => by rw [mem0 hn] at he; cases he
 have n1 : nodeM F0 1 = some ⟨1,2,2,NE,[]⟩ := by rw [node0,if_pos rfl]
 have wf : Wf F0 (fun _ => 1) :=
  { nod := List.pairwise_singleton _ _
    root := ⟨_,n1,rfl⟩
    ino := fun n hn => by rw [mem0 hn]; exact ⟨by show (1 : Int) ≤ 1; omega,by show (1 : Int) ≤ 4294967295; omega⟩
    kind := fun n hn => by rw [mem0 hn]; exact .inl rfl
    data := fun n hn => by rw [mem0 hn]; exact ⟨by decide,fun _ => rfl⟩
    ord := fun n hn => by rw [mem0 hn]; exact List.Pairwise.nil
    name := fun n hn e he => (no n hn e he).elim
    some_ := fun n hn e he => (no n hn e he).elim
    goes := fun n hn e he => (no n hn e he).elim
    par := fun n hn e he => (no n hn e he).elim
    par1 := rfl
    cnt := fun n hn => by rw [mem0 hn]; rfl
    pos := fun n hn hk => by rw [mem0 hn] at hk; cases hk
    dl := fun n hn hk => by rw [mem0 hn]; rfl }
 have ws : Ws F0 1 0 2 :=
  { nod := wf.nod
    ino := wf.ino
    kind := fun n hn => by rw [mem0 hn]; exact .inl rfl
    data := fun n hn => by rw [mem0 hn]; exact ⟨by decide,fun _ => rfl⟩
    ord := wf.ord
    name := wf.name
    some_ := wf.some_
    links := fun n hn => by rw [mem0 hn]; exact ⟨by show -((2 : Nat) : Int) ≤ 2; omega,by show (2 : Int) ≤ ((2 : Nat) : Int); omega⟩
    len := Nat.le_refl 1
    tot_ := Nat.le_refl 0 }
 have rg : RG F0 (fun _ => 1) (DirsX.gk []) := ⟨fun k hk => absurd rfl hk,fun n hn => .inr (by rw [mem0 hn]; exact ⟨rfl,rfl,rfl,rfl⟩),fun n hn e he => (no n hn e he).elim,fun n hn w hw => by rw [mem0 hn,show (⟨1,2,2,NE,[]⟩ : Nd).data = NE from rfl,FileM.blkG_nil]; rfl⟩
 exact St.of wf rg (fun _ => ⟨by show (0 : Int) ≤ 1; omega,by show (1 : Int) ≤ 4294967295; omega⟩) ws (by omega) (by omega) (by omega) List.Pairwise.nil (fun p hp => by cases hp)
section
variable {F : Fs} {b : Int}
theorem InB.wri (h : InB b F) (ino a : Int) (xs : List Int) : InB b (wriM F ino a xs).2 := by
 unfold wriM
 split
 ·exact h
 ·rename_i x hx
  have hm := (FileO.fil_some hx).2.2.2
  split
  ·exact h
  ·split
   ·exact h
   ·split
    ·exact h
    ·exact h.with_ (n := { x with data := FileO.wrD x.data a.toNat xs }) (h x hm)
theorem InB.tru (h : InB b F) (ino z : Int) : InB b (truM F ino z).2 := by
 unfold truM
 split
 ·exact h
 ·rename_i x hx
  have hm := (FileO.fil_some hx).2.2.2
  split
  ·exact h
  ·split
   ·exact h
   ·exact h.with_ (n := { x with data := FileO.truD x.data z.toNat }) (h x hm)
theorem InB.out (h : InB b F) (hs : List Int) (o : Op20) (xs : List Int) {ino : Int} (hi : ino ≤ b) : InB b (outM F hs o xs ino).F := by
 unfold outM
 by_cases c4 : o.kind = 4
 ·rw [if_pos c4]; exact h.make _ _ hi
 rw [if_neg c4]
 by_cases c5 : o.kind = 5
 ·rw [if_pos c5]; exact h.make _ _ hi
 rw [if_neg c5]
 by_cases c6 : o.kind = 6
 ·rw [if_pos c6]; exact h
 rw [if_neg c6]
 by_cases c7 : o.kind = 7
 ·rw [if_pos c7]; exact h
 rw [if_neg c7]
 by_cases c8 : o.kind = 8
 ·rw [if_pos c8]
  by_cases hn : (OpsI.inoD hs o.hn).2 = 0
  ·rw [if_pos hn]; exact h
  ·rw [if_neg hn]; exact h
 rw [if_neg c8]
 by_cases c9 : o.kind = 9
 ·rw [if_pos c9]
  by_cases hn : (OpsI.inoD hs o.hn).2 = 0
  ·rw [if_pos hn]; exact h.wri _ _ _
  ·rw [if_neg hn]; exact h
 rw [if_neg c9]
 by_cases c10 : o.kind = 10
 ·rw [if_pos c10]
  by_cases hn : (OpsI.inoD hs o.hn).2 = 0
  ·rw [if_pos hn]; exact h.tru _ _
  ·rw [if_neg hn]; exact h
 rw [if_neg c10]
 by_cases c11 : o.kind = 11
 ·rw [if_pos c11]; exact h.ren _ _
 rw [if_neg c11]
 by_cases c12 : o.kind = 12
 ·rw [if_pos c12]; exact h.lnk _ _
 rw [if_neg c12]
 by_cases c13 : o.kind = 13
 ·rw [if_pos c13]; exact h.unl _
 rw [if_neg c13]
 by_cases c14 : o.kind = 14
 ·rw [if_pos c14]; exact h.rem _
 rw [if_neg c14]
 by_cases c15 : o.kind = 15
 ·rw [if_pos c15]; exact h
 rw [if_neg c15]
 by_cases c16 : o.kind = 16
 ·rw [if_pos c16]; exact h
 rw [if_neg c16]
 exact h
end
theorem st_next {s s' : Vs} {k : Nat} {R : Out} {M : OutM} {r : Res20} {q : Nat} {u : Go.World} {hs' : List Int} (os : s.Ok) (d : Dio s.shown R M k) (hq : QA R s r q u hs' s') (hr : r.er ≠ 21) : r.er = M.er ∧ r.n = (if M.er = 0 then M.n else 0) ∧ hs' = M.hs ∧ ∃ π',St M.F π' s'.shown k := by
 have h1 := hq.er
 have h2 : (goW s R.ps).2 = true := by
  cases e : (goW s R.ps).2 with
  | true => rfl
  | false =>
    rw [e] at h1
    exact absurd h1 hr
 rw [h2,if_pos rfl,d.er] at h1
 refine ⟨h1,by rw [hq.n,h1,d.n],hq.hs.trans d.hs,?_⟩
 obtain ⟨π',h3⟩ := d.st
 rw [hq.aft.sm.shown,(go_out _ os h2).1]
 exact ⟨π',h3⟩
structure Tw (ρ : Int → Int) (F : Fs) (s t : Vs) (k : Nat) : Prop where
 a : ∃ π,St F π s.shown k
 b : ∃ π,St (rf ρ F) π t.shown k
 num : InB (k + 1) F
theorem Tw.next {ρ : Int → Int} (hρ : Ren ρ) {F : Fs} {s t s' t' : Vs} {k : Nat} {hs hs' ht' : List Int} {o : Op20} {xs : List Int} {r q : Res20} {b b2 : Nat} {u u2 : Go.World} (T : Tw ρ F s t k) (hk : k + 1 ≤ 900) (os : s.Ok) (ot : t.Ok) (hb : ∀ x ∈ hs,0 ≤ x ∧ x ≤ 4294967295) (hb2 : ∀ x ∈ hs.map ρ,0 ≤ x ∧ x ≤ 4294967295) (hx : ∀ x ∈ xs,0 ≤ x ∧ x ≤ 255) (j0 : 2 ≤ ρ (2 + k)) (j1 : ρ (2 + k) ≤ 4294967295)
 (ha : QA (outO s.shown hs o xs (2 + k)) s r b u hs' s') (hc : QA (outO t.shown (hs.map ρ) o xs (ρ (2 + k))) t q b2 u2 ht' t') (nr : r.er ≠ 21) (nq : q.er ≠ 21) :
 ∃ F',Tw ρ F' s' t' (k + 1) ∧ ht' = hs'.map ρ ∧ q.er = r.er ∧ q.n = r.n ∧ q.k = r.k ∧ q.l = r.l ∧ q.s = r.s ∧ q.p = r.p ∧ (outO t.shown (hs.map ρ) o xs (ρ (2 + k))).ys = (outO s.shown hs o xs (2 + k)).ys ∧ (outO t.shown (hs.map ρ) o xs (ρ (2 + k))).names = (outO s.shown hs o xs (2 + k)).names := by
 obtain ⟨π,sa⟩ := T.a
 obtain ⟨π2,sb⟩ := T.b
 have free : nodeM F (2 + k) = none := by
  cases e : nodeM F (2 + k) with
  | none => rfl
  | some n =>
    have h1 := node_mem e
    have h2 := T.num n h1.1
    omega
 have free2 : nodeM (rf ρ F) (ρ (2 + k)) = none := by rw [node_ren hρ,free]; rfl
 have da := out_same sa hk hb o hx (ino := 2 + k) (by omega) (by omega) (fun _ => free)
 have db := out_same sb hk hb2 o hx j0 j1 (fun _ => free2)
 rw [out_ren hρ] at db
 obtain ⟨a1,a2,a3,a4⟩ := st_next os da ha nr
 obtain ⟨b1,b2',b3,b4⟩ := st_next ot db hc nq
 refine ⟨(outM F hs o xs (2 + k)).F,⟨a4,b4,?_⟩,by rw [b3,a3]; rfl,b1.trans a1.symm,b2'.trans a2.symm,?_,?_,?_,?_,db.ys.trans da.ys.symm,db.names.trans da.names.symm⟩
 ·exact InB.out (fun n hn => by have := T.num n hn; omega) hs o xs (by omega)
 ·rw [hc.k,ha.k,db.kk,da.kk]; rfl
 ·rw [hc.l,ha.l,db.l,da.l]; rfl
 ·rw [hc.z,ha.z,db.z,da.z]; rfl
 ·rw [hc.p,ha.p]
def rho (y : Int) (j : Int) : Int := if j ≤ 1 then j else if j ≤ 61 then 2 + y + 7 * (100 - (j - 2)) else j + 1000000
theorem rho_ren {y : Int} (h0 : 0 ≤ y) (h1 : y ≤ 65535) : Ren (rho y) := by
 refine ⟨fun a b h => ?_,rfl,rfl⟩
 unfold rho at h
 repeat' split at h
 all_goals omega
theorem rho_at {y : Int} {k : Nat} (hk : k < 60) : rho y (2 + k) = 2 + y + 7 * (100 - (k : Int)) := by
 unfold rho
 rw [if_neg (by omega),if_pos (by omega)]
 omega
theorem tw0 {ρ : Int → Int} (hρ : Ren ρ) {s t : Vs} (hs : s.shown = []) (ht : t.shown = []) : Tw ρ F0 s t 0 := by
 have e : rf ρ F0 = F0 := by
  show [(⟨ρ 1,2,2,NE,[]⟩ : Nd)] = [⟨1,2,2,NE,[]⟩]
  rw [hρ.one]
 exact ⟨⟨_,by rw [hs]; exact st0⟩,⟨_,by rw [e,ht]; exact st0⟩,fun n hn => by rw [mem0 hn]; exact Int.le_refl _⟩
end Go.Proofs.YtogdjbhjgbnicaaGreatDoor.OpsBe
namespace Go.Proofs.YtogdjbhjgbnicaaGreatDoor.OpsNu
open Go.RowKit
open Ho Byte KeysM TreeM ViewM NamesL WalkM DirsV Lst Chg TreeL ViewL WalkL WalkV Vat DirsK DirsKa DirsKc FileKd OpsR OpsE OpsI OpsS OpsT OpsTa OpsM OpsN OpsP OpsC OpsX OpsYa
open OpsGh (not_great op_own)
open Own hiding keeps lower
open OpsBe
variable {Rep : RepT}
theorem ans_far {R : Out} {s s' : Vs} {r : Res20} {b : Nat} {u u1 w' : World} {hs' : List Int} {Q : Nat → Prop} (hq : QA R s r b u hs' s') (hQ : ∀ k,Q k → k < b) (hb : Below u.heap.size u u1) (hc : Chg Q u1 w') (hys : ∀ x ∈ R.ys,0 ≤ x ∧ x ≤ 255) : Bs w' r.da r.dn R.ys ∧ Sl Tx.txE w' r.na r.nn R.names := by
 have f1 : ∀ q o,r.da = some ⟨q,o,none⟩ → b ≤ q := fun q o e => (hq.ys.lt (g := q) (by rw [e]; rfl)).1
 have f2 : ∀ q o,r.na = some ⟨q,o,none⟩ → b ≤ q := fun q o e => (hq.names.lt (g := q) (by rw [e]; rfl)).1
 exact ⟨OpsF.sl_bs (Sl.chg (hq.ys.sl.below hb) hc (fun q o e h => by
  have := f1 q o e
  have := hQ q h
  omega)) hys,Sl.chg (hq.names.sl.below hb) hc (fun q o e h => by
  have := f2 q o e
  have := hQ q h
  omega)⟩
theorem numbers_law (hV : Vw20 Rep) (hN : NewB Rep) (hPt : ∀ (w : World) (v : Value) (s : Vs) (S D : Nat → Prop),Rep w v s S D → ∃ A,v = .pointer A) (hF : OpsL.FixOk) (A : Option Addr) (n c : Nat) (ops : List Op20) (cu : Int) (w : World) (hl : Sl o7E w A n ops) (hn : n ≤ c) (hc : c ≤ maxLen) (hops : ∀ x ∈ ops,Op20G w x) (cu0 : 0 ≤ cu) (cu1 : cu ≤ 65535) (hmx : Mx w) :
 Calls Tryz.prog 4 #[.slice A n c,.int .u16 cu] w fun e w' => e = .returned (.bool true) ∧ Below w.heap.size w w' := by
 have HMX := hQ_ hmx
 have HN := hQ_ hN
 have HV := hQ_ hV
 have HS := hQ_ hV.wk.stays
 have HPT := hQ_ hPt
 have HF := hQ_ hF
 have HL := hQ_ hl
 have HOPS := hQ_ hops
 have HCN := hQ_ (And.intro hn hc)
 have HML : Hid (0 < w.heap.size) := hQ_ (by
  obtain ⟨m,hm⟩ := HMX.out
  exact World.block_lt_of_cell? w ⟨0,0,none⟩ hm)
 clear hmx hN hV hPt hF hl hops hn hc
 go_enter Tryz.func4,Tryz.ntmps4
 go_wp2_with fail
 refine (TreeG.new_calls _).mono ?_
 rintro e w2 ⟨v0,hh0,rfl,hr0,hb2⟩
 have HB2 := hQ_ hb2
 have HR0 := hQ_ hr0
 clear hb2 hr0
 go_wp2_with fail
 refine (HN.out HR0.out (Nat.zero_le _) (fun p hp => by cases hp)).mono ?_
 rintro e w3 ⟨v,S,D,rfl,hr3,hS3,hD3,hb3⟩
 obtain ⟨B,rfl⟩ := HPT.out _ _ _ _ _ hr3
 have HB3 := hQ_ (Own.keeps HB2.out hb3)
 have HS3 : Hid (∀ b,S b → w.heap.size ≤ b) := hQ_ (fun b hb => Nat.le_trans HB2.out.size (hS3 b hb))
 have HR3 := hQ_ hr3
 clear hb3 hr3 hS3 hD3
 go_wp2_with fail
 refine (OpsF.new_desk B _).mono ?_
 rintro e w4 ⟨rfl,hd4,hb4⟩
 obtain ⟨gd,hgd⟩ : ∃ gd,w3.heap.size = gd := ⟨_,rfl⟩
 rw [hgd] at hd4 ⊢
 have HGD : Hid (w.heap.size ≤ gd) := hQ_ (by have := HB3.out.size; omega)
 have HB4 := hQ_ (Own.keeps HB3.out hb4)
 have P4 : Hid (Pk Rep 0 w4 gd (.pointer B) OpsFm.h0 OpsFm.s0 S D) := hQ_ ⟨⟨HS.out.below HR3.out hb4,hd4,fun e => by have := HS.out.lt HR3.out gd e; omega⟩,good_nil,Nat.zero_le _,Nat.zero_le _,Nat.zero_le _,⟨HMX.out.below HB4.out,fun hs => by have h1 := HS3.out _ hs; have h2 := HML.out; omega⟩,by have h2 := HML.out; have h4 := HGD.out; omega⟩
 have HDL : Hid (∀ b,D b → b < gd) := hQ_ (fun b hb => by have := HS.out.lt HR3.out b hb; omega)
 clear hd4 hb4
 go_wp2_with fail
 refine (TreeG.new_calls _).mono ?_
 rintro e w5 ⟨v1,hh1,rfl,hr1,hb5⟩
 have HB5 := hQ_ (Own.keeps HB4.out hb5)
 have P5 := hQ_ (Pk.below_ HS.out P4.out hb5)
 have HR1 := hQ_ hr1
 have hg5 := P5.out.dst.dsk.blk.lt
 clear hb5 hr1
 go_wp2_with fail
 refine (HN.out HR1.out (Nat.zero_le _) (fun p hp => by cases hp)).mono ?_
 rintro e w6 ⟨v2,S2,D2,rfl,hr6,hS6,hD6,hb6⟩
 obtain ⟨B2,rfl⟩ := HPT.out _ _ _ _ _ hr6
 have HB6 := hQ_ (Own.keeps HB5.out hb6)
 have P6 := hQ_ (Pk.below_ HS.out P5.out hb6)
 have HS6 : Hid (∀ b,S2 b → w5.heap.size ≤ b) := hQ_ hS6
 have HD6 : Hid (∀ b,D2 b → w5.heap.size ≤ b) := hQ_ hD6
 have HR6 := hQ_ hr6
 have hs6 := hb6.size
 clear hb6 hr6 hS6 hD6
 go_wp2_with fail
 refine (OpsF.new_desk B2 _).mono ?_
 rintro e w7 ⟨rfl,hd7,hb7⟩
 obtain ⟨ge,hge⟩ : ∃ ge,w6.heap.size = ge := ⟨_,rfl⟩
 rw [hge] at hd7 ⊢
 have HGE : Hid (gd < ge) := hQ_ (by omega)
 have HB7 := hQ_ (Own.keeps HB6.out hb7)
 have A7 : Hid (Ap Rep 0 0 w7 gd (.pointer B) ge (.pointer B2) OpsFm.h0 OpsFm.h0 OpsFm.s0 OpsFm.s0 S D S2 D2) := hQ_ ⟨Pk.below_ HS.out P6.out hb7,⟨⟨HS.out.below HR6.out hb7,hd7,fun e => by have := HS.out.lt HR6.out ge e; omega⟩,good_nil,Nat.zero_le _,Nat.zero_le _,Nat.zero_le _,⟨HMX.out.below HB7.out,fun hs => by have h1 := HS6.out _ hs; have h2 := HML.out; have h3 := HGD.out; omega⟩,by have h2 := HML.out; have h4 := HGD.out; omega⟩,fun q hq hd => by have h1 := HD6.out q hd; have h2 := HDL.out q (HS.out.sub HR3.out q hq); omega,fun q hq hd => by have h1 := HS6.out q hq; have h2 := HDL.out q hd; omega,fun hd => by have h1 := HD6.out gd hd; omega,fun hd => by have h2 := HDL.out ge hd; omega,by omega⟩
 have HS7 : Hid ((∀ b,S b → w.heap.size ≤ b) ∧ ∀ b,S2 b → w.heap.size ≤ b) := hQ_ ⟨HS3.out,fun b hb => by have h1 := HS6.out b hb; have h3 := HGD.out; omega⟩
 clear hd7 hb7 hs6 hg5
 go_wp2_with fail
 refine (cut_calls A n c ops _ (HL.out.below HB7.out) HCN.out.1 HCN.out.2).mono ?_
 rintro e w8 ⟨m,rfl,hmn,hm60,hgood,hb8⟩
 have A8 := hQ_ (Ap.below HS.out A7.out hb8)
 have HB8 := hQ_ (Own.keeps HB7.out hb8)
 have HGO := hQ_ hgood
 clear hgood hb8
 go_wp2_with fail
 have RHO := hQ_ (rho_ren cu0 cu1)
 have T0 : Hid (Tw (rho cu) F0 OpsFm.s0 OpsFm.s0 0) := hQ_ (tw0 RHO.out rfl rfl)
 have H0 : Hid (OpsFm.h0.map (rho cu) = OpsFm.h0) := hQ_ rfl
 go_loopw [26] (fun i wr => ∃ (k : Nat) (hs : List Int) (s t : Vs) (S D S2 D2 : Nat → Prop) (F : DirsM.Fs),k ≤ m ∧ i = .int .i64 k ∧ Hid (Ap Rep k k wr gd (.pointer B) ge (.pointer B2) hs (hs.map (rho cu)) s t S D S2 D2) ∧ Hid (Tw (rho cu) F s t k) ∧ Hid (Below w.heap.size w wr ∧ (∀ b,S b → w.heap.size ≤ b) ∧ ∀ b,S2 b → w.heap.size ≤ b)) (fun i _ => m - (intOf i).toNat)
 case atStart => exact ⟨0,OpsFm.h0,_,_,S,D,S2,D2,_,Nat.zero_le _,rfl,by rw [H0.out]; exact A8,T0,hQ_ ⟨HB8.out,HS7.out.1,HS7.out.2⟩⟩
 case round =>
  clear HS7 HS6 HD6 HDL HS3 HR3 HR6 P4 P5 P6 A7 A8 T0 H0 S D S2 D2
  obtain ⟨k,hs,s,t,S,D,S2,D2,F,hk,rfl,HP,HT,HZ⟩ := hrel
  by_cases hlt : k < m
  ·obtain ⟨x,g,o,hx,rfl,hg,hcl⟩ := (HL.out.below HZ.out.1).get k (by omega)
   have HXG := hQ_ (HGO.out k x hlt hx)
   have HXO := hQ_ (HOPS.out x (List.mem_of_getElem? hx))
   obtain ⟨xs,hxs⟩ := HXO.out.bs
   have HOW := hQ_ (fun u (hb : Below w.heap.size w u) => own_calls x u (hxs.below hb) HXO.out.nil (by have := (not_great HXG.out).2.2; omega))
   have HXS := hQ_ hxs.2.1
   obtain ⟨xk,xp,xo,xh,xf,xn,xa,xl,xc⟩ := x
   dsimp only [Op20.val,Op20.cells] at HOW
   have HC : Hid (wr.rangeAt g (o + k * 7) [.int .u8 xk,.string xp,.string xo,.int .i64 xh,.int .i64 xf,.int .i64 xn,.slice xa xl xc]) := hQ_ hcl
   have O9 := hQ_ (Blk.new_ wr #[.int .u8 xk,.string xp,.string xo,.int .i64 xh,.int .i64 xf,.int .i64 xn,.slice xa xl xc] 41)
   have hb9 := bX_ O9.out
   have A9 := hQ_ (Ap.below HS.out HP.out hb9)
   have B9 := hQ_ (Own.keeps HZ.out.1 hb9)
   have HLW : Hid ((∀ b,D b → b < wr.heap.size) ∧ (∀ b,D2 b → b < wr.heap.size) ∧ gd < wr.heap.size ∧ ge < wr.heap.size) := hQ_ ⟨HS.out.lt HP.out.a.dst.rep,HS.out.lt HP.out.b.dst.rep,HP.out.a.dst.dsk.blk.lt,HP.out.b.dst.dsk.blk.lt⟩
   obtain ⟨wa,hwa⟩ : ∃ wa,wr.alloc (.cells #[.int .u8 xk,.string xp,.string xo,.int .i64 xh,.int .i64 xf,.int .i64 xn,.slice xa xl xc] 41) = wa := ⟨_,rfl⟩
   rw [hwa] at A9 B9 O9
   have HWA := hQ_ hwa
   have q60 : (2 + (k : Int)) % 4294967296 = 2 + k := by omega
   clear hcl hx hb9 hxs hwa
   go_upto_region 7 with ((with_reducible refine pick (some 30) ?_); refine wpList_load_mid rfl 41 _ rfl g (o + k * 7) rfl _ _ HC.out Tryz.underlying41 rfl info_op20 ?_)
   rw [HWA.out]
   obtain ⟨gx,hgx⟩ : ∃ gx,wr.heap.size = gx := ⟨_,rfl⟩
   rw [hgx] at O9 HLW ⊢
   go_wp2_with ((with_reducible refine pick (some 32) ?_); refine load_blk rfl 41 _ rfl gx rfl 41 _ _ O9.out Tryz.underlying41 rfl info_op20 ?_)
   refine (HOW.out _ B9.out).mono ?_
   rintro e wb ⟨q10,c10,rfl,so10,h101,h102,h103,h104,hb10⟩
   have A10 := hQ_ (Ap.below HS.out A9.out hb10)
   have B10 := hQ_ (Own.keeps B9.out hb10)
   have O10 := hQ_ (O9.out.below hb10)
   have OB10 := hQ_ (op_own HS.out A9.out.a HXO.out HXG.out HXS.out so10 h101 h102 h103 h104)
   have HDO := hQ_ (A10.out.a.do_ HV.out (by omega) _ (2 + (k : Int)) OB10.out (by omega) (by omega))
   dsimp only [Op20.val,Op20.cells,withD] at HDO
   clear so10 h101 h102 h103 h104 hb10
   go_wp2_with fail
   refine HDO.out.mono ?_
   rintro e wc ⟨⟨er,rn,rda,rdn,rdc,rna,rnn,rnc,rk,rl,rs,rp⟩,hs1,s1,S1,D1,rfl,P1,st1,qa1,of1⟩
   have A11 := hQ_ (Ap.first HS.out A10.out P1 st1)
   have B11 := hQ_ (OpsF.bel_dst B10.out HZ.out.2.1 HGD.out st1)
   have O11 : Hid (Blk wc gx #[.int .u8 xk,.string xp,.string xo,.int .i64 xh,.int .i64 xf,.int .i64 xn,.slice xa xl xc] 41) := hQ_ ((st1.chg.block gx O10.out.lt (fun e => by
    rcases e with e | e
    ·have := HLW.out.1 _ (HS.out.sub HP.out.a.dst.rep _ e)
     omega
    ·have h1 := HLW.out.2.2.1
     omega)).trans O10.out)
   have QA1 : Hid (QA (outO s.shown hs ⟨xk,xp,xo,xh,xf,xn,xa,xl,xc⟩ xs (2 + (k : Int))) s ⟨er,rn,rda,rdn,rdc,rna,rnn,rnc,rk,rl,rs,rp⟩ wb.heap.size wc hs1 s1) := hQ_ qa1
   have HWB : Hid (∀ q,S2 q ∨ q = ge → q < wb.heap.size) := hQ_ (fun q hq => by
    rcases hq with hq | hq
    ·exact HS.out.lt A10.out.b.dst.rep q (HS.out.sub A10.out.b.dst.rep q hq)
    ·rw [hq]; exact A10.out.b.dst.dsk.blk.lt)
   have HBC0 : Hid (wb.heap.size ≤ wc.heap.size) := hQ_ st1.chg.size
   have R1 := hQ_ (Blk.new_ wc #[.int .i64 er,.int .i64 rn,.slice rda rdn rdc,.slice rna rnn rnc,.int .u8 rk,.int .u32 rl,.int .u32 rs,.int .u32 rp] 48)
   have hbx := bX_ R1.out
   have A11b := hQ_ (Ap.below HS.out A11.out hbx)
   have B11b := hQ_ (Own.keeps B11.out.1 hbx)
   have O11b : Hid (Blk _ gx #[.int .u8 xk,.string xp,.string xo,.int .i64 xh,.int .i64 xf,.int .i64 xn,.slice xa xl xc] 41) := hQ_ (Blk.below O11.out hbx)
   have HC1 := hQ_ hbx
   obtain ⟨w1,hw1⟩ : ∃ w1,wc.alloc (.cells #[.int .i64 er,.int .i64 rn,.slice rda rdn rdc,.slice rna rnn rnc,.int .u8 rk,.int .u32 rl,.int .u32 rs,.int .u32 rp] 48) = w1 := ⟨_,rfl⟩
   rw [hw1] at R1 A11b B11b O11b HC1
   have HW1 := hQ_ hw1
   clear hw1 hbx P1 st1 qa1 of1
   go_upto_region 8 with (fail)
   rw [HW1.out]
   obtain ⟨r1,hr1⟩ : ∃ r1,wc.heap.size = r1 := ⟨_,rfl⟩
   have HR1 := hQ_ hr1
   rw [hr1] at R1 ⊢
   clear hr1
   have q61 : (2 + cu) % 4294967296 = 2 + cu := by omega
   have q62 : (7 * (100 - (k : Int))) % 4294967296 = 7 * (100 - (k : Int)) := by omega
   have q63 : (2 + cu + 7 * (100 - (k : Int))) % 4294967296 = 2 + cu + 7 * (100 - (k : Int)) := by omega
   have e1 : wrap64 cu = cu := by unfold wrap64; omega
   go_wp2_with ((with_reducible refine pick (some 39) ?_); refine load_blk rfl 41 _ rfl gx rfl 41 _ _ O11b.out Tryz.underlying41 rfl info_op20 ?_)
   refine (HOW.out _ B11b.out).mono ?_
   rintro e wd ⟨q12,c12,rfl,so12,h121,h122,h123,h124,hb12⟩
   have A12 := hQ_ (Ap.below HS.out A11b.out hb12)
   have B12 := hQ_ (Own.keeps B11b.out hb12)
   have R1d := hQ_ (Blk.below R1.out hb12)
   have HC2 := hQ_ (Own.keeps HC1.out hb12)
   have OB12 := hQ_ (op_own HS.out A11b.out.b HXO.out HXG.out HXS.out so12 h121 h122 h123 h124)
   have HDO2 := hQ_ (A12.out.b.do_ HV.out (by omega) _ (2 + cu + 7 * (100 - (k : Int))) OB12.out (by omega) (by omega))
   dsimp only [Op20.val,Op20.cells,withD] at HDO2
   clear so12 h121 h122 h123 h124 hb12
   go_wp2_with fail
   refine HDO2.out.mono ?_
   rintro e we ⟨⟨er2,rn2,rda2,rdn2,rdc2,rna2,rnn2,rnc2,rk2,rl2,rs2,rp2⟩,ht1,t1,S3,D3,rfl,P2,st2,qa2,of2⟩
   have A13 := hQ_ (Ap.first HS.out A12.out.swap P2 st2).swap
   have B13 := hQ_ (OpsF.bel_dst B12.out HZ.out.2.2 (Nat.le_of_lt (Nat.lt_of_le_of_lt HGD.out HGE.out)) st2)
   have QA2 : Hid (QA (outO t.shown (hs.map (rho cu)) ⟨xk,xp,xo,xh,xf,xn,xa,xl,xc⟩ xs (rho cu (2 + (k : Int)))) t ⟨er2,rn2,rda2,rdn2,rdc2,rna2,rnn2,rnc2,rk2,rl2,rs2,rp2⟩ wd.heap.size we ht1 t1) := hQ_ (by rw [rho_at (by omega)]; exact qa2)
   have R1e := hQ_ ((st2.chg.block r1 R1d.out.lt (fun e => by
    have h1 := HWB.out _ e
    have h2 := HBC0.out
    have h3 := HR1.out
    omega)).trans R1d.out)
   have HST := hQ_ st2.chg
   have R2 := hQ_ (Blk.new_ we #[.int .i64 er2,.int .i64 rn2,.slice rda2 rdn2 rdc2,.slice rna2 rnn2 rnc2,.int .u8 rk2,.int .u32 rl2,.int .u32 rs2,.int .u32 rp2] 48)
   have hby := bX_ R2.out
   have A13b := hQ_ (Ap.below HS.out A13.out hby)
   have B13b := hQ_ (Own.keeps B13.out.1 hby)
   have R1f : Hid (Blk _ r1 #[.int .i64 er,.int .i64 rn,.slice rda rdn rdc,.slice rna rnn rnc,.int .u8 rk,.int .u32 rl,.int .u32 rs,.int .u32 rp] 48) := hQ_ (Blk.below R1e.out hby)
   have HE2 := hQ_ hby
   obtain ⟨w2',hw2⟩ : ∃ w2',we.alloc (.cells #[.int .i64 er2,.int .i64 rn2,.slice rda2 rdn2 rdc2,.slice rna2 rnn2 rnc2,.int .u8 rk2,.int .u32 rl2,.int .u32 rs2,.int .u32 rp2] 48) = w2' := ⟨_,rfl⟩
   rw [hw2] at R2 A13b B13b R1f HE2
   have HW2 := hQ_ hw2
   clear hw2 hby P2 st2 qa2 of2 q61 q62 q63 e1
   go_upto_region 9 with (fail)
   rw [HW2.out]
   obtain ⟨r2,hr2⟩ : ∃ r2,we.heap.size = r2 := ⟨_,rfl⟩
   rw [hr2] at R2 ⊢
   clear hr2
   obtain ⟨c10,c11,c12,c13,c14,c15,c16,c17⟩ := cC8 R1f.out
   have c20 := cC8 R2.out
   by_cases x1 : er = 21
   ·subst x1
    go_wp2_with fail
    refine (HF.out _ A13b.out.a.mx.1).mono ?_
    rintro e wf ⟨rfl,hbf⟩
    have HBF := hQ_ (Own.keeps B13b.out hbf)
    clear hbf
    go_wp2_with fail
    go_ret
    exact ⟨rfl,HBF.out⟩
   have y1 : (er == 21) = false := by simpa using x1
   by_cases x2 : er2 = 21
   ·subst x2
    go_wp2_with fail
    refine (HF.out _ A13b.out.a.mx.1).mono ?_
    rintro e wf ⟨rfl,hbf⟩
    have HBF := hQ_ (Own.keeps B13b.out hbf)
    clear hbf
    go_wp2_with fail
    go_ret
    exact ⟨rfl,HBF.out⟩
   have y2 : (er2 == 21) = false := by simpa using x2
   have hkk2 : k + 1 ≤ 900 := by omega
   have hbd2 := A10.out.b.dst.dsk.bd
   have hTN := hQ_ (Tw.next RHO.out HT.out hkk2 (HS.out.ok HP.out.a.dst.rep) (HS.out.ok HP.out.b.dst.rep) HP.out.a.dst.dsk.bd hbd2 HXS.out (by rw [rho_at (by omega)]; omega) (by rw [rho_at (by omega)]; omega) QA1.out QA2.out x1 x2)
   obtain ⟨F',T1,g1,g2,g3,g4,g5,g6,g7,g8,g9⟩ := hTN.out
   dsimp only at g2 g3 g4 g5 g6 g7
   have hyb := OpsGa.out_ys s.shown hs ⟨xk,xp,xo,xh,xf,xn,xa,xl,xc⟩ xs (2 + (k : Int))
   have hA := ans_far QA1.out HWB.out HC2.out HST.out hyb
   have hB1 := OpsF.sl_bs QA2.out.ys.sl (by rw [g8]; exact hyb)
   have hN1 := QA2.out.names.sl
   rw [g8] at hB1
   rw [g9] at hN1
   dsimp only at hA hB1 hN1
   have hdn : rdn = rdn2 := by have h1 := hA.1.1; have h2 := hB1.1; omega
   have hnn : rnn = rnn2 := by have h1 := hA.2.1; have h2 := hN1.1; omega
   have hlen : rnn ≤ 100000 := by rw [← hA.2.1]; exact Nat.le_trans (OpsGa.out_names _ _ _ _ _) (HV.out.wk.shown HP.out.a.dst.rep ⟨HP.out.a.base,by have := HP.out.a.rd; omega,by have := HP.out.a.rg; omega⟩)
   have HSA := hQ_ (hA.1.below HE2.out)
   have HSB := hQ_ (hA.2.below HE2.out)
   have HSC := hQ_ (hB1.below HE2.out)
   have HSD := hQ_ (hN1.below HE2.out)
   have HT1 := hQ_ T1
   have HLEN := hQ_ hlen
   clear hA hB1 hN1 hyb hTN g8 g9 T1 QA1 QA2 HDO HDO2 hbd2 hlen x1 x2
   subst hdn hnn g1 g2 g3 g4 g5 g6 g7
   go_wp2_with fail
   refine (OpsA.same_calls _ _ _ _ _ _ rda rda2 _ _ rdc rdc2 rna rna2 _ rnc rnc2 _ HSA.out HSC.out HSB.out HSD.out HLEN.out).mono ?_
   rintro e wg ⟨rfl,hbg⟩
   have A14 := hQ_ (Ap.below HS.out A13b.out hbg)
   have B14 := hQ_ (Own.keeps B13b.out hbg)
   clear hbg
   go_wp2_with fail
   go_roundw
   case rel => exact ⟨k + 1,_,_,_,_,_,_,_,_,by omega,by go_num,A14,HT1,hQ_ ⟨B14.out,B11.out.2,B13.out.2⟩⟩
   case measure => simp [intOf]; omega
  ·obtain rfl : k = m := by omega
   go_wp2_with fail
   refine (HF.out _ HP.out.a.mx.1).mono ?_
   rintro e wf ⟨rfl,hbf⟩
   have HBF := hQ_ (Own.keeps HZ.out.1 hbf)
   clear hbf
   go_wp2_with fail
   go_ret
   exact ⟨rfl,HBF.out⟩
end Go.Proofs.YtogdjbhjgbnicaaGreatDoor.OpsNu
namespace Go.Proofs.YtogdjbhjgbnicaaGreatDoor.OpsNx
open Go.RowKit
open Byte Lst OpsR OpsX OpsC OpsGx
theorem numbers_all (A : Option Addr) (n c : Nat) (ops : List Op20) (a1 : Int) (w : World) (h : n ≤ c ∧ c ≤ maxLen ∧ Sl o7E w A n ops ∧ ∀ p ∈ ops,Op20G w p) (h1 : (Lit.int .u16 a1).wf = true) (hmx : NamesL.Mx w) :
 Calls Tryz.prog 4 #[.slice A n c,.int .u16 a1] w fun e w' => e = .returned (.bool true) ∧ Below w.heap.size w w' := by
 have b1 := bounds_u16 h1
 exact OpsNu.numbers_law vw OpsF.newb OpsF.form_n OpsF.fix_ok A n c ops a1 w h.2.2.1 h.1 h.2.1 h.2.2.2 b1.1 b1.2 hmx
end Go.Proofs.YtogdjbhjgbnicaaGreatDoor.OpsNx
namespace Go.Proofs.YtogdjbhjgbnicaaGreatDoor.NamesW
open Go.RowKit
open Byte Lst Tx NamesL NamesK
theorem mx_of {w : World} (h : w.ShapedOpen Tryz.prog) : Mx w := NamesY.splitLay.s1_3 w h
end Go.Proofs.YtogdjbhjgbnicaaGreatDoor.NamesW
namespace Go.Proofs.YtogdjbhjgbnicaaGreatDoor.Shap
open Go
theorem returns_shaped {H : Type} {enc : TypeId × Value → H} {a : Assume} {C : Checked} {os : Os} {f : FuncId} {fn : Func} {s : ChangeSpec} {conds : List PathCond} {apart fresh handsOn again : Bool} {X : World → Array Value → Prop}
 (keepX : ∀ (v v' : World) (xs : Array Value),v.heap = v'.heap → X v xs → X v' xs) (own : ownKnob C.prog.godebug = none) (started : os.Started) (noInit : C.prog.inits.idxOf? f = none) (hfn : C.prog.funcs[f]? = some fn)
 (wit : ∃ (v : World) (tape : Tape) (i : Input),v.os = os ∧ (v.forCall tape i).Shaped C.prog ∧ i.vars = [] ∧ Input.okWide C.prog (v.forCall tape i) .any v.heap.size f i ∧ ((s.pre enc C.prog fn conds apart (v.forCall tape i).memory i.args ∧ X (v.forCall tape i).memory i.args) ∧ sizedMet enc C.prog fn (OpenSpec.ofChange s) apart (v.forCall tape i).memory i.args) ∧ a.holds C.prog (lone (Frame.enter C.prog f i.args .normal) [] (v.forCall tape i)))
 (walked : ∀ (W : World) (base : Nat) (xs : Array Value) (ds gs : List (DataW H)) (before : List MemPlace),(∀ (j : Nat) t v,fn.params[j]? = some t → xs[j]? = some v → Value.okWide C.prog W .any base t v) → DataW.Whole enc C.prog fn.params.toList s.vars apart W xs.toList ds gs before → conds.all (PathCond.test C.prog ⟨fn.params.toList,ds,s.plain.varTypes C.prog,gs⟩) = true →
   (DataW.weightsEach C.prog (fn.params.toList ++ s.plain.varTypes C.prog) (ds ++ gs)).all (· ≤ reachBytes) = true → X W xs → W.ShapedOpen C.prog → Calls C.prog f xs W fun e W' => ∃ v,e = .returned v ∧ s.post enc C.prog fn apart fresh handsOn again W xs v W') :
 ReturnsInHanded a C os f .any (fun v xs => (s.pre enc C.prog fn conds apart v xs ∧ X v xs) ∧ sizedMet enc C.prog fn (OpenSpec.ofChange s) apart v xs) (s.post enc C.prog fn apart fresh handsOn again) := by
 refine returnsInHanded_of_calls own started noInit wit ?_
 intro v tape i _ shape _ ok pre _
 obtain ⟨_,_,_,fn',hfn',_,_,_,_,hval⟩ := ok
 obtain rfl : fn' = fn := Option.some.inj (hfn'.symm.trans hfn)
 obtain ⟨⟨⟨ds,gs,before,hw,hc⟩,hx⟩,hz⟩ := pre
 have whole := DataW.Whole.of_heap (w' := v.forCall tape i) (by rfl) hw
 refine (walked (v.forCall tape i) v.heap.size i.args ds gs before hval whole hc (hz.weights hw) (keepX _ _ _ (by rfl) hx) shape).mono fun e W' h => ?_
 obtain ⟨x,rfl,hp⟩ := h
 exact ChangeSpec.post_blind hp
end Go.Proofs.YtogdjbhjgbnicaaGreatDoor.Shap
namespace Go.Proofs.YtogdjbhjgbnicaaGreatDoor.Open
open Go.RowKit Go.WideShapes Go.ChangeShapes
section
variable {P : Program} {w : World} {r : Reach} {b : Nat}
theorem cell_int {t : TypeId} {k : IntKind} {v : Value} (ht : P.underlying t = some (.int k)) (h : Cell.okWide P w r b t v) : ∃ n,v = .int k n ∧ (Lit.int k n).wf = true := by
 unfold Cell.okWide at h
 rw [ht] at h
 cases v <;> simp [Cell.ok,ht] at h
 rename_i k' n
 obtain ⟨rfl,h1⟩ := h
 refine ⟨n,rfl,?_⟩
 simpa [Lit.wf,IntKind.has] using h1
end
end Go.Proofs.YtogdjbhjgbnicaaGreatDoor.Open