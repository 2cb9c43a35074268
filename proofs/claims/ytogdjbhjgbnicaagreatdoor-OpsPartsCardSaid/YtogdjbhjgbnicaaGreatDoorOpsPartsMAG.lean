import Derived.Test.YtogdjbhjgbnicaaGreatDoorProg
import Derived.Deep.MidRow
import Derived.OwnWalk
import Derived.Test.YtogdjbhjgbnicaaGreatDoorSq
import Derived.Test.YtogdjbhjgbnicaaGreatDoorByteS
import Derived.Test.YtogdjbhjgbnicaaGreatDoorLst
import Derived.Test.YtogdjbhjgbnicaaGreatDoorOwn
import Derived.ChangeSlices
import Derived.Maps.Views
import Derived.OpenShut
import Derived.Deep.Slices
import Derived.ChangeArms
import Derived.WideShapes
set_option linter.unusedVariables false
set_option linter.unusedSimpArgs false
set_option maxRecDepth 100000
namespace Go.Proofs.YtogdjbhjgbnicaaGreatDoor.OpsR
open Go.RowKit
open Byte Lst
open Own hiding keeps
structure Op20 where
 kind : Int
 path : ByteArray
 other : ByteArray
 hn : Int
 frm : Int
 n : Int
 da : Option Addr
 dn : Nat
 dc : Nat
abbrev Op20.cells (o : Op20) : Array Value := #[.int .u8 o.kind,.string o.path,.string o.other,.int .i64 o.hn,.int .i64 o.frm,.int .i64 o.n,.slice o.da o.dn o.dc]
abbrev Op20.val (o : Op20) : Value := .agg o.cells
abbrev resV (er n : Int) (data names : Value) (k l s p : Int) : Value := .agg #[.int .i64 er,.int .i64 n,data,names,.int .u8 k,.int .u32 l,.int .u32 s,.int .u32 p]
abbrev onlyV (er : Int) : Value := resV er 0 (.slice none 0 0) (.slice none 0 0) 0 0 0 0
theorem info_res : (Tryz.prog.info? 48).map (·.size) = some 8 := by kernel_rfl
theorem info_op20 : (Tryz.prog.info? 41).map (·.size) = some 7 := by kernel_rfl
abbrev zres : Array Value := #[.int .i64 0,.int .i64 0,.slice none 0 0,.slice none 0 0,.int .u8 0,.int .u32 0,.int .u32 0,.int .u32 0]
theorem only_calls (er : Int) (w : World) : Calls Tryz.prog 26 #[.int .i64 er] w fun e w' => e = .returned (onlyV er) ∧ Below w.heap.size w w' := by
 have hb := bN_ w (.cells #[.int .i64 er,.int .i64 0,.slice none 0 0,.slice none 0 0,.int .u8 0,.int .u32 0,.int .u32 0,.int .u32 0] 48)
 have HB := hQ_ hb
 clear hb
 go_enter Tryz.func26,Tryz.ntmps26
 go_wp2_with fail
 exact bodyPost_ret (v := onlyV er) (results_cell_row rfl _ _ w.heap.size 48 _ (0,0) _ rfl (Blk.new_ w _ _) Tryz.underlying48 rfl info_res) rfl ⟨rfl,HB.out⟩
theorem field_0 (a b c d e f g h : Value) (w : World) : (Instr.field 48 (.agg #[a,b,c,d,e,f,g,h]) 0).run Tryz.prog w = .ok a w := by kernel_rfl
theorem field_1 (a b c d e f g h : Value) (w : World) : (Instr.field 48 (.agg #[a,b,c,d,e,f,g,h]) 1).run Tryz.prog w = .ok b w := by kernel_rfl
theorem field_2 (a b c d e f g h : Value) (w : World) : (Instr.field 48 (.agg #[a,b,c,d,e,f,g,h]) 2).run Tryz.prog w = .ok c w := by kernel_rfl
def great (o : Op20) : Bool := decide ((o.path.size : Int) > 600) || (decide ((o.other.size : Int) > 600) || decide ((o.dn : Int) > 1500))
theorem great_calls (o : Op20) (w : World) : Calls Tryz.prog 20 #[o.val] w fun e w' => e = .returned (.bool (great o)) ∧ Below w.heap.size w w' := by
 obtain ⟨kind,path,other,hn,frm,n,da,dn,dc⟩ := o
 have hb := bN_ w (.cells #[.int .u8 kind,.string path,.string other,.int .i64 hn,.int .i64 frm,.int .i64 n,.slice da dn dc] 41)
 have HB := hQ_ hb
 clear hb
 unfold great
 dsimp only
 cases h1 : decide ((path.size : Int) > 600) with
 | true =>
   go_enter Tryz.func20,Tryz.ntmps20
   go_wp2
   go_ret
   exact ⟨rfl,HB.out⟩
 | false =>
   cases h2 : decide ((other.size : Int) > 600) with
   | true =>
     go_enter Tryz.func20,Tryz.ntmps20
     go_wp2
     go_ret
     exact ⟨rfl,HB.out⟩
   | false =>
     go_enter Tryz.func20,Tryz.ntmps20
     go_wp2
     go_ret
     exact ⟨rfl,HB.out⟩
end Go.Proofs.YtogdjbhjgbnicaaGreatDoor.OpsR
namespace Go.Proofs.YtogdjbhjgbnicaaGreatDoor.OpsX
open Go.RowKit Go.ChangeShapes Go.WideShapes Go.Deep Go.Maps
open Lst Byte OpsR
structure Op20G (w : World) (o : Op20) : Prop where
 k : 0 ≤ o.kind ∧ o.kind ≤ 255
 path : o.path.size ≤ maxLen
 other : o.other.size ≤ maxLen
 hn : -9223372036854775808 ≤ o.hn ∧ o.hn ≤ 9223372036854775807
 frm : -9223372036854775808 ≤ o.frm ∧ o.frm ≤ 9223372036854775807
 n : -9223372036854775808 ≤ o.n ∧ o.n ≤ 9223372036854775807
 fit : o.dn ≤ o.dc ∧ o.dc ≤ maxLen
 nil : o.da = none → o.dc = 0
 bs : ∃ bs,Bs w o.da o.dn bs
theorem seven {α : Type} {l : List α} (h : l.length = 7) : ∃ a b c d e f g,l = [a,b,c,d,e,f,g] := by
 match l,h with
 | [a,b,c,d,e,f,g],_ => exact ⟨a,b,c,d,e,f,g,rfl⟩
section
variable {H : Type} {enc : TypeId × Value → H} {w : World} {base fuel : Nat}
theorem int_of {cs : List Value} {x : DataW H × List MemPlace} (h : DataW.trod enc Tryz.prog w base (fun _ => true) true fuel 3 cs = some x) : ∃ n,cs = [.int .i64 n] ∧ -9223372036854775808 ≤ n ∧ n ≤ 9223372036854775807 := by
 obtain ⟨n,h1,_,h2⟩ := DataW.trod_int Tryz.underlying3 h
 have := bounds_i64 h2
 exact ⟨n,h1,this.1,this.2⟩
theorem byte_of {cs : List Value} {x : DataW H × List MemPlace} (h : DataW.trod enc Tryz.prog w base (fun _ => true) true fuel 5 cs = some x) : ∃ n,cs = [.int .u8 n] ∧ 0 ≤ n ∧ n ≤ 255 := by
 obtain ⟨n,h1,_,h2⟩ := DataW.trod_int Tryz.underlying5 h
 have := bounds_u8 h2
 exact ⟨n,h1,this.1,this.2⟩
theorem bytes_of {cs : List Value} {x : DataW H × List MemPlace} (h : DataW.trod enc Tryz.prog w base (fun _ => true) true fuel 39 cs = some x) : ∃ A len cap,cs = [.slice A len cap] ∧ (∃ bs,Bs w A len bs) ∧ (A = none → cap = 0) ∧ len ≤ cap ∧ cap ≤ maxLen := by
 rcases open_ints Tryz.underlying39 Tryz.underlying5 (by kernel_rfl) h with ⟨hcs,_⟩ | ⟨a,l,c,zs,hcs,_,hl,hm,hz,hx,hcell,hwz⟩
 ·exact ⟨none,0,0,hcs,⟨[],Bs.nil_ _ _⟩,fun _ => rfl,Nat.le_refl _,Nat.zero_le _⟩
 ·have := Bs.of_row (w := w) (a := some a) (len := l) (cap := c) (zs := zs) (.inr ⟨a,rfl,hl,hm,by simpa using hz,hcell,hwz⟩)
  exact ⟨some a,l,c,hcs,⟨_,this.1⟩,this.2.2,hl,hm⟩
theorem str_of {cs : List Value} {x : DataW H × List MemPlace} (h : DataW.trod enc Tryz.prog w base (fun _ => true) true fuel 9 cs = some x) : ∃ s : ByteArray,cs = [.string s] ∧ s.size ≤ maxLen := by
 obtain ⟨s,h1,_,h2⟩ := DataW.trod_string Tryz.underlying9 h
 exact ⟨s,h1,by simpa using h2⟩
theorem cells_of {cs : List Value} {x : DataW H × List MemPlace} (h : DataW.trod enc Tryz.prog w base (fun _ => true) true fuel 41 cs = some x) : ∃ o : Op20,cs = o.cells.toList ∧ Op20G w o := by
 obtain ⟨xs,n,_,hxe,hlen,hxl,hg⟩ := DataW.trod_struct Tryz.underlying41 h
 have h7 : Tryz.prog.cellsOf 41 = 7 := by kernel_rfl
 have hi : Tryz.prog.cellsOf 3 = 1 := by kernel_rfl
 have hu : Tryz.prog.cellsOf 5 = 1 := by kernel_rfl
 have ht : Tryz.prog.cellsOf 9 = 1 := by kernel_rfl
 have hs : Tryz.prog.cellsOf 39 = 1 := by kernel_rfl
 rw [h7] at hlen
 have hxl : xs.length = 7 := hxl
 obtain ⟨c0,c1,c2,c3,c4,c5,c6,rfl⟩ := seven hlen
 obtain ⟨x0,x1,x2,x3,x4,x5,x6,rfl⟩ := seven hxl
 have g0 : DataW.trod enc Tryz.prog w base (fun _ => true) true n 5 (([c0,c1,c2,c3,c4,c5,c6].drop 0).take (Tryz.prog.cellsOf 5)) = some x0 := hg 0 _ rfl
 have g1 : DataW.trod enc Tryz.prog w base (fun _ => true) true n 9 (([c0,c1,c2,c3,c4,c5,c6].drop 1).take (Tryz.prog.cellsOf 9)) = some x1 := hg 1 _ rfl
 have g2 : DataW.trod enc Tryz.prog w base (fun _ => true) true n 9 (([c0,c1,c2,c3,c4,c5,c6].drop 2).take (Tryz.prog.cellsOf 9)) = some x2 := hg 2 _ rfl
 have g3 : DataW.trod enc Tryz.prog w base (fun _ => true) true n 3 (([c0,c1,c2,c3,c4,c5,c6].drop 3).take (Tryz.prog.cellsOf 3)) = some x3 := hg 3 _ rfl
 have g4 : DataW.trod enc Tryz.prog w base (fun _ => true) true n 3 (([c0,c1,c2,c3,c4,c5,c6].drop 4).take (Tryz.prog.cellsOf 3)) = some x4 := hg 4 _ rfl
 have g5 : DataW.trod enc Tryz.prog w base (fun _ => true) true n 3 (([c0,c1,c2,c3,c4,c5,c6].drop 5).take (Tryz.prog.cellsOf 3)) = some x5 := hg 5 _ rfl
 have g6 : DataW.trod enc Tryz.prog w base (fun _ => true) true n 39 (([c0,c1,c2,c3,c4,c5,c6].drop 6).take (Tryz.prog.cellsOf 39)) = some x6 := hg 6 _ rfl
 rw [hu] at g0
 rw [ht] at g1 g2
 rw [hi] at g3 g4 g5
 rw [hs] at g6
 obtain ⟨n0,e0,k0⟩ := byte_of g0
 obtain ⟨s1,e1,k1⟩ := str_of g1
 obtain ⟨s2,e2,k2⟩ := str_of g2
 obtain ⟨n3,e3,k3⟩ := int_of g3
 obtain ⟨n4,e4,k4⟩ := int_of g4
 obtain ⟨n5,e5,k5⟩ := int_of g5
 obtain ⟨A,l,c,e6,k6,k7,k8⟩ := bytes_of g6
 simp at e0 e1 e2 e3 e4 e5 e6
 subst e0 e1 e2 e3 e4 e5 e6
 exact ⟨⟨n0,s1,s2,n3,n4,n5,A,l,c⟩,rfl,⟨k0,k1,k2,k3,k4,k5,k8,k7,k6⟩⟩
end
end Go.Proofs.YtogdjbhjgbnicaaGreatDoor.OpsX
set_option maxHeartbeats 16000000
namespace Go.Proofs.YtogdjbhjgbnicaaGreatDoor.OpsD
open Go.RowKit
open Byte Lst OpsR
open Own hiding keeps
def deedF (k : Int) : FuncId := if k = 4 then 45 else if k = 5 then 46 else if k = 6 then 47 else if k = 7 then 48 else if k = 8 then 49 else if k = 9 then 50 else if k = 10 then 51 else if k = 11 then 52 else if k = 12 then 53 else if k = 13 then 54 else if k = 14 then 55 else if k = 15 then 56 else if k = 16 then 57 else 58
theorem deed_calls (k : Int) (w : World) : Calls Tryz.prog 27 #[.int .u8 k] w fun e w' => e = .returned (.func (.func (deedF k)) #[] #[]) ∧ w = w' := by
 by_cases q4 : k = 4
 ·subst q4
  rw [show deedF 4 = 45 from rfl]
  go_enter Tryz.func27,Tryz.ntmps27
  go_wp2
  go_ret
  exact ⟨rfl,rfl⟩
 have r4 : (k == 4) = false := by simpa using q4
 by_cases q5 : k = 5
 ·subst q5
  rw [show deedF 5 = 46 from rfl]
  go_enter Tryz.func27,Tryz.ntmps27
  go_wp2
  go_ret
  exact ⟨rfl,rfl⟩
 have r5 : (k == 5) = false := by simpa using q5
 by_cases q6 : k = 6
 ·subst q6
  rw [show deedF 6 = 47 from rfl]
  go_enter Tryz.func27,Tryz.ntmps27
  go_wp2
  go_ret
  exact ⟨rfl,rfl⟩
 have r6 : (k == 6) = false := by simpa using q6
 by_cases q7 : k = 7
 ·subst q7
  rw [show deedF 7 = 48 from rfl]
  go_enter Tryz.func27,Tryz.ntmps27
  go_wp2
  go_ret
  exact ⟨rfl,rfl⟩
 have r7 : (k == 7) = false := by simpa using q7
 by_cases q8 : k = 8
 ·subst q8
  rw [show deedF 8 = 49 from rfl]
  go_enter Tryz.func27,Tryz.ntmps27
  go_wp2
  go_ret
  exact ⟨rfl,rfl⟩
 have r8 : (k == 8) = false := by simpa using q8
 by_cases q9 : k = 9
 ·subst q9
  rw [show deedF 9 = 50 from rfl]
  go_enter Tryz.func27,Tryz.ntmps27
  go_wp2
  go_ret
  exact ⟨rfl,rfl⟩
 have r9 : (k == 9) = false := by simpa using q9
 by_cases q10 : k = 10
 ·subst q10
  rw [show deedF 10 = 51 from rfl]
  go_enter Tryz.func27,Tryz.ntmps27
  go_wp2
  go_ret
  exact ⟨rfl,rfl⟩
 have r10 : (k == 10) = false := by simpa using q10
 by_cases q11 : k = 11
 ·subst q11
  rw [show deedF 11 = 52 from rfl]
  go_enter Tryz.func27,Tryz.ntmps27
  go_wp2
  go_ret
  exact ⟨rfl,rfl⟩
 have r11 : (k == 11) = false := by simpa using q11
 by_cases q12 : k = 12
 ·subst q12
  rw [show deedF 12 = 53 from rfl]
  go_enter Tryz.func27,Tryz.ntmps27
  go_wp2
  go_ret
  exact ⟨rfl,rfl⟩
 have r12 : (k == 12) = false := by simpa using q12
 by_cases q13 : k = 13
 ·subst q13
  rw [show deedF 13 = 54 from rfl]
  go_enter Tryz.func27,Tryz.ntmps27
  go_wp2
  go_ret
  exact ⟨rfl,rfl⟩
 have r13 : (k == 13) = false := by simpa using q13
 by_cases q14 : k = 14
 ·subst q14
  rw [show deedF 14 = 55 from rfl]
  go_enter Tryz.func27,Tryz.ntmps27
  go_wp2
  go_ret
  exact ⟨rfl,rfl⟩
 have r14 : (k == 14) = false := by simpa using q14
 by_cases q15 : k = 15
 ·subst q15
  rw [show deedF 15 = 56 from rfl]
  go_enter Tryz.func27,Tryz.ntmps27
  go_wp2
  go_ret
  exact ⟨rfl,rfl⟩
 have r15 : (k == 15) = false := by simpa using q15
 by_cases q16 : k = 16
 ·subst q16
  rw [show deedF 16 = 57 from rfl]
  go_enter Tryz.func27,Tryz.ntmps27
  go_wp2
  go_ret
  exact ⟨rfl,rfl⟩
 have r16 : (k == 16) = false := by simpa using q16
 rw [show deedF k = 58 from by unfold deedF; rw [if_neg q4,if_neg q5,if_neg q6,if_neg q7,if_neg q8,if_neg q9,if_neg q10,if_neg q11,if_neg q12,if_neg q13,if_neg q14,if_neg q15,if_neg q16]]
 go_enter Tryz.func27,Tryz.ntmps27
 go_wp2
 go_ret
 exact ⟨rfl,rfl⟩
end Go.Proofs.YtogdjbhjgbnicaaGreatDoor.OpsD
namespace Go.Proofs.YtogdjbhjgbnicaaGreatDoor.OpsE
open Go.RowKit
open Byte Lst OpsR OpsD
open Own hiding keeps
structure Res20 where
 er : Int
 n : Int
 da : Option Addr
 dn : Nat
 dc : Nat
 na : Option Addr
 nn : Nat
 nc : Nat
 k : Int
 l : Int
 s : Int
 p : Int
abbrev Res20.cells (r : Res20) : Array Value := #[.int .i64 r.er,.int .i64 r.n,.slice r.da r.dn r.dc,.slice r.na r.nn r.nc,.int .u8 r.k,.int .u32 r.l,.int .u32 r.s,.int .u32 r.p]
abbrev Res20.val (r : Res20) : Value := .agg r.cells
def DeedOk (d : Addr) (o : Op20) (ino : Int) (w : World) (P : Res20 → World → Prop) : Prop := ∀ u,Below w.heap.size w u → w.heap.size + 2 ≤ u.heap.size → Calls Tryz.prog (deedF o.kind) #[.pointer (some d),o.val,.int .u32 ino] u fun e u' => ∃ r : Res20,e = .returned r.val ∧ (∀ k,w.heap.size ≤ k → k < u.heap.size → u'.heap[k]? = u.heap[k]?) ∧ P r u'
theorem do_calls (d : Addr) (o : Op20) (ino : Int) (w : World) (P : Res20 → World → Prop)
 (hE : ∀ (args : Array Value) (w : World),(callFunc (deedF o.kind) args).run Tryz.prog w = .ok (.enter (deedF o.kind) args) w)
 (hC : DeedOk d o ino w P) (hP : ∀ r u u',P r u → Blk u (w.heap.size + 1) zres 48 → u.grownBy u' (some (w.heap.size + 1)) → P r u') :
 Calls Tryz.prog 15 #[.pointer (some d),o.val,.int .u32 ino] w fun e w' => ∃ r : Res20,e = .returned r.val ∧ P r w' := by
 obtain ⟨F,hF⟩ : ∃ F,deedF o.kind = F := ⟨_,rfl⟩
 have HC := hQ_ hC
 unfold DeedOk at HC
 have HDD := hQ_ (fun (u : World) => deed_calls o.kind u)
 rw [hF] at HC HDD hE
 have HP := hQ_ hP
 obtain ⟨kind,path,other,hn,frm,n,da,dn,dc⟩ := o
 obtain ⟨W,hW⟩ : ∃ W,(w.alloc (.cells #[.int .u8 kind,.string path,.string other,.int .i64 hn,.int .i64 frm,.int .i64 n,.slice da dn dc] 41)).alloc (.cells zres 48) = W := ⟨_,rfl⟩
 have hs1 : (w.alloc (.cells #[.int .u8 kind,.string path,.string other,.int .i64 hn,.int .i64 frm,.int .i64 n,.slice da dn dc] 41)).heap.size = w.heap.size + 1 := by simp
 have HB : Hid (Blk W (w.heap.size + 1) zres 48) := hQ_ (by rw [← hW,← hs1]; exact Blk.new_ _ zres _)
 have HO : Hid (Blk W w.heap.size #[.int .u8 kind,.string path,.string other,.int .i64 hn,.int .i64 frm,.int .i64 n,.slice da dn dc] 41) := hQ_ (by rw [← hW]; exact (Blk.new_ _ _ _).alloc _)
 have HBW : Hid (Below w.heap.size w W) := hQ_ (by rw [← hW]; exact (bW_).alloc (by rw [hs1]; omega) _)
 have HSW : Hid (w.heap.size + 2 ≤ W.heap.size) := hQ_ (by rw [← hW]; simp)
 have HW := hQ_ hW
 have f0 := cC7 HO.out
 dsimp only [Op20.val,Op20.cells] at HC HDD ⊢
 clear hW hs1 hC hP hF
 go_enter Tryz.func15,Tryz.ntmps15
 go_wp2_with fail
 rw [HW.out]
 go_wp2_with fail
 refine (HDD.out _).mono ?_
 rintro e w2 ⟨rfl,rfl⟩
 go_wp2_with fail
 refine (HC.out _ HBW.out HSW.out).mono ?_
 rintro e w3 ⟨⟨er,rn,rda,rdn,rdc,rna,rnn,rnc,rk,rl,rs,rp⟩,rfl,hkp,hp⟩
 dsimp only [Res20.val,Res20.cells]
 have HB3 : Hid (Blk w3 (w.heap.size + 1) zres 48) := hQ_ ((hkp _ (by omega) HB.out.lt).trans HB.out)
 have HP3 := hQ_ hp
 clear hkp hp
 go_wp2_with ((with_reducible refine pick none ?_); refine store_blk rfl 48 _ _ rfl (w.heap.size + 1) #[.int .i64 er,.int .i64 rn,.slice rda rdn rdc,.slice rna rnn rnc,.int .u8 rk,.int .u32 rl,.int .u32 rs,.int .u32 rp] rfl rfl 48 _ HB3.out info_res rfl (by simp [Value.oneCell']) ?_; intro w5 hk5 hg5)
 exact bodyPost_ret (v := .agg #[.int .i64 er,.int .i64 rn,.slice rda rdn rdc,.slice rna rnn rnc,.int .u8 rk,.int .u32 rl,.int .u32 rs,.int .u32 rp]) (results_cell_row rfl _ _ (w.heap.size + 1) 48 _ (0,0) _ rfl hk5 Tryz.underlying48 rfl info_res) rfl ⟨⟨er,rn,rda,rdn,rdc,rna,rnn,rnc,rk,rl,rs,rp⟩,rfl,HP.out _ _ _ HP3.out HB3.out hg5⟩
end Go.Proofs.YtogdjbhjgbnicaaGreatDoor.OpsE
namespace Go.Proofs.YtogdjbhjgbnicaaGreatDoor.OpsI
open Go.RowKit
open Byte Lst OpsR OpsD OpsE
open Own hiding keeps
def dskA (v : Value) (hs : List Int) : Array Value := (v :: hs.map (Value.int .u32)).toArray
structure Dsk (w : World) (g : Nat) (v : Value) (hs : List Int) : Prop where
 blk : Blk w g (dskA v hs) 70
 len : hs.length = 16
 bd : ∀ x ∈ hs,0 ≤ x ∧ x ≤ 4294967295
section
variable {w w' : World} {g : Nat} {v : Value} {hs : List Int}
theorem Dsk.below (h : Dsk w g v hs) (hb : Below w.heap.size w w') : Dsk w' g v hs := ⟨h.blk.below hb,h.len,h.bd⟩
theorem Dsk.view (h : Dsk w g v hs) : w.cell? ⟨g,0,none⟩ = some v := by
 rw [h.blk.cell 0]
 simp [dskA]
theorem Dsk.hand (h : Dsk w g v hs) {j : Nat} (hj : j < 16) : w.cell? ⟨g,1 + j,none⟩ = some (.int .u32 (hs.getD j 0)) := by
 rw [h.blk.cell (1 + j)]
 have hl := h.len
 unfold dskA
 rw [List.getElem?_toArray,show 1 + j = j + 1 by omega,List.getElem?_cons_succ,List.getElem?_map,List.getD_eq_getElem?_getD,List.getElem?_eq_getElem (by omega)]
 rfl
end
def inoD (hs : List Int) (hn : Int) : Int × Int := if hn < 0 then (0,16) else if 16 ≤ hn then (0,16) else if hs.getD hn.toNat 0 = 0 then (0,16) else (hs.getD hn.toNat 0,0)
theorem inoD_bd {hs : List Int} (h : ∀ x ∈ hs,0 ≤ x ∧ x ≤ 4294967295) (hn : Int) : 0 ≤ (inoD hs hn).1 ∧ (inoD hs hn).1 ≤ 4294967295 := by
 unfold inoD
 repeat' split
 all_goals try exact ⟨by decide,by decide⟩
 dsimp only
 rw [List.getD_eq_getElem?_getD]
 cases hk : hs[hn.toNat]? with
 | none => exact ⟨by decide,by decide⟩
 | some x => exact h x (List.mem_of_getElem? hk)
theorem inode_calls {g : Nat} {v : Value} {hs : List Int} {w : World} (h : Dsk w g v hs) (hn : Int) :
 Calls Tryz.prog 81 #[.pointer (some ⟨g,0,none⟩),.int .i64 hn] w fun e w' => e = .returned (.tuple #[.int .u32 (inoD hs hn).1,.int .i64 (inoD hs hn).2]) ∧ w = w' := by
 unfold inoD
 by_cases h1 : hn < 0
 ·have d1 : decide (hn < 0) = true := decide_eq_true h1
  rw [if_pos h1]
  clear h
  go_enter Tryz.func81,Tryz.ntmps81
  go_wp2_with fail
  go_ret2
  exact ⟨rfl,rfl⟩
 have d1 : decide (hn < 0) = false := decide_eq_false h1
 rw [if_neg h1]
 by_cases h2 : 16 ≤ hn
 ·have d2 : decide (hn ≥ 16) = true := decide_eq_true h2
  rw [if_pos h2]
  clear h
  go_enter Tryz.func81,Tryz.ntmps81
  go_wp2_with fail
  go_ret2
  exact ⟨rfl,rfl⟩
 have d2 : decide (hn ≥ 16) = false := decide_eq_false h2
 rw [if_neg h2]
 obtain ⟨j,rfl⟩ : ∃ j : Nat,hn = (j : Int) := ⟨hn.toNat,by omega⟩
 rw [Int.toNat_natCast]
 have x1 := h.hand (j := j) (by omega)
 generalize hs.getD j 0 = y at *
 have hj : j < 16 := by omega
 clear h
 by_cases h3 : y = 0
 ·subst h3
  rw [if_pos rfl]
  go_enter Tryz.func81,Tryz.ntmps81
  go_wp2_with fail
  go_ret2
  exact ⟨rfl,rfl⟩
 ·have d3 : (y == 0) = false := by simpa using h3
  rw [if_neg h3]
  go_enter Tryz.func81,Tryz.ntmps81
  go_wp2_with fail
  go_ret2
  exact ⟨rfl,rfl⟩
end Go.Proofs.YtogdjbhjgbnicaaGreatDoor.OpsI