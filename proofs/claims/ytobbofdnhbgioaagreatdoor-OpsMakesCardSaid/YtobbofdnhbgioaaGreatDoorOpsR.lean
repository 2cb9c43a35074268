import Derived.Test.YtobbofdnhbgioaaGreatDoorSq
import Derived.Test.YtobbofdnhbgioaaGreatDoorByteS
import Derived.Test.YtobbofdnhbgioaaGreatDoorLst
import Derived.Test.YtobbofdnhbgioaaGreatDoorOwn
import Derived.Test.YtobbofdnhbgioaaGreatDoorProg
import Derived.Deep.MidRow
import Derived.OwnWalk
set_option linter.unusedVariables false
set_option linter.unusedSimpArgs false
set_option maxRecDepth 100000
namespace Go.Proofs.YtobbofdnhbgioaaGreatDoor.OpsR
open Go.RowKit
open Byte Lst
open Own hiding keeps
structure Op20 where
 kind : Int
 path : ByteArray
 other : ByteArray
 hn : Int
 frm : Int
 n : Int
 da : Option Addr
 dn : Nat
 dc : Nat
abbrev Op20.cells (o : Op20) : Array Value := #[.int .u8 o.kind,.string o.path,.string o.other,.int .i64 o.hn,.int .i64 o.frm,.int .i64 o.n,.slice o.da o.dn o.dc]
abbrev Op20.val (o : Op20) : Value := .agg o.cells
abbrev resV (er n : Int) (data names : Value) (k l s p : Int) : Value := .agg #[.int .i64 er,.int .i64 n,data,names,.int .u8 k,.int .u32 l,.int .u32 s,.int .u32 p]
abbrev onlyV (er : Int) : Value := resV er 0 (.slice none 0 0) (.slice none 0 0) 0 0 0 0
theorem info_res : (Tryz.prog.info? 48).map (·.size) = some 8 := by kernel_rfl
abbrev zres : Array Value := #[.int .i64 0,.int .i64 0,.slice none 0 0,.slice none 0 0,.int .u8 0,.int .u32 0,.int .u32 0,.int .u32 0]
theorem only_calls (er : Int) (w : World) : Calls Tryz.prog 26 #[.int .i64 er] w fun e w' => e = .returned (onlyV er) ∧ Below w.heap.size w w' := by
 have hb := bN_ w (.cells #[.int .i64 er,.int .i64 0,.slice none 0 0,.slice none 0 0,.int .u8 0,.int .u32 0,.int .u32 0,.int .u32 0] 48)
 have HB := hQ_ hb
 clear hb
 go_enter Tryz.func26,Tryz.ntmps26
 go_wp2_with fail
 exact bodyPost_ret (v := onlyV er) (results_cell_row rfl _ _ w.heap.size 48 _ (0,0) _ rfl (Blk.new_ w _ _) Tryz.underlying48 rfl info_res) rfl ⟨rfl,HB.out⟩
theorem do_nil (o : Op20) (ino : Int) (w : World) : Calls Tryz.prog 15 #[.pointer none,o.val,.int .u32 ino] w fun e w' => e = .returned (onlyV 25) ∧ Below w.heap.size w w' := by
 obtain ⟨kind,path,other,hn,frm,n,da,dn,dc⟩ := o
 obtain ⟨W,hW⟩ : ∃ W,(w.alloc (.cells #[.int .u8 kind,.string path,.string other,.int .i64 hn,.int .i64 frm,.int .i64 n,.slice da dn dc] 41)).alloc (.cells zres 48) = W := ⟨_,rfl⟩
 have hs1 : (w.alloc (.cells #[.int .u8 kind,.string path,.string other,.int .i64 hn,.int .i64 frm,.int .i64 n,.slice da dn dc] 41)).heap.size = w.heap.size + 1 := by simp
 have HB : Hid (Blk W (w.heap.size + 1) zres 48) := hQ_ (by rw [← hW,← hs1]; exact Blk.new_ _ zres _)
 have HBW : Hid (Below w.heap.size w W) := hQ_ (by rw [← hW]; exact (bW_).alloc (by rw [hs1]; omega) _)
 have HW := hQ_ hW
 clear hW hs1
 have HON := hQ_ (fun (u : World) => only_calls 25 u)
 go_enter Tryz.func15,Tryz.ntmps15
 go_wp2_with fail
 rw [HW.out]
 go_wp2_with fail
 refine (HON.out _).mono ?_
 rintro e w3 ⟨rfl,hb3⟩
 have HB3 := hQ_ (HB.out.below hb3)
 have HK3 := hQ_ (Own.keeps HBW.out hb3)
 clear hb3
 go_wp2_with ((with_reducible refine pick none ?_); refine store_blk rfl 48 _ _ rfl (w.heap.size + 1) #[.int .i64 25,.int .i64 0,.slice none 0 0,.slice none 0 0,.int .u8 0,.int .u32 0,.int .u32 0,.int .u32 0] rfl rfl 48 _ HB3.out info_res rfl (by simp [Value.oneCell']) ?_; intro w5 hk5 hg5)
 have hb5 : Below w.heap.size w w5 := HK3.out.grown hg5 HK3.out.size (fun k hk => by injection hk with hk; omega)
 exact bodyPost_ret (v := onlyV 25) (results_cell_row rfl _ _ (w.heap.size + 1) 48 _ (0,0) _ rfl hk5 Tryz.underlying48 rfl info_res) rfl ⟨rfl,hb5⟩
theorem field_0 (a b c d e f g h : Value) (w : World) : (Instr.field 48 (.agg #[a,b,c,d,e,f,g,h]) 0).run Tryz.prog w = .ok a w := by kernel_rfl
theorem field_1 (a b c d e f g h : Value) (w : World) : (Instr.field 48 (.agg #[a,b,c,d,e,f,g,h]) 1).run Tryz.prog w = .ok b w := by kernel_rfl
theorem field_2 (a b c d e f g h : Value) (w : World) : (Instr.field 48 (.agg #[a,b,c,d,e,f,g,h]) 2).run Tryz.prog w = .ok c w := by kernel_rfl
def great (o : Op20) : Bool := decide ((o.path.size : Int) > 600) || (decide ((o.other.size : Int) > 600) || decide ((o.dn : Int) > 1500))
theorem great_calls (o : Op20) (w : World) : Calls Tryz.prog 20 #[o.val] w fun e w' => e = .returned (.bool (great o)) ∧ Below w.heap.size w w' := by
 obtain ⟨kind,path,other,hn,frm,n,da,dn,dc⟩ := o
 have hb := bN_ w (.cells #[.int .u8 kind,.string path,.string other,.int .i64 hn,.int .i64 frm,.int .i64 n,.slice da dn dc] 41)
 have HB := hQ_ hb
 clear hb
 unfold great
 dsimp only
 cases h1 : decide ((path.size : Int) > 600) with
 | true =>
   go_enter Tryz.func20,Tryz.ntmps20
   go_wp2
   go_ret
   exact ⟨rfl,HB.out⟩
 | false =>
   cases h2 : decide ((other.size : Int) > 600) with
   | true =>
     go_enter Tryz.func20,Tryz.ntmps20
     go_wp2
     go_ret
     exact ⟨rfl,HB.out⟩
   | false =>
     go_enter Tryz.func20,Tryz.ntmps20
     go_wp2
     go_ret
     exact ⟨rfl,HB.out⟩
def makes (k : Int) : Bool := (k == 4) || (k == 5)
theorem makes_calls (o : Op20) (w : World) : Calls Tryz.prog 24 #[o.val] w fun e w' => e = .returned (.bool (makes o.kind)) ∧ Below w.heap.size w w' := by
 obtain ⟨kind,path,other,hn,frm,n,da,dn,dc⟩ := o
 have hb := bN_ w (.cells #[.int .u8 kind,.string path,.string other,.int .i64 hn,.int .i64 frm,.int .i64 n,.slice da dn dc] 41)
 have HB := hQ_ hb
 clear hb
 unfold makes
 dsimp only
 cases h1 : (kind == 4) with
 | true =>
   go_enter Tryz.func24,Tryz.ntmps24
   go_wp2
   go_ret
   exact ⟨rfl,HB.out⟩
 | false =>
   go_enter Tryz.func24,Tryz.ntmps24
   go_wp2
   go_ret
   exact ⟨rfl,HB.out⟩
theorem view_nil (w : World) : Calls Tryz.prog 22 #[.pointer none] w fun e w' => e = .returned (.pointer none) ∧ w = w' := by
 go_enter Tryz.func22,Tryz.ntmps22
 go_wp2
 go_ret
 exact ⟨rfl,rfl⟩
theorem open_nil (w : World) : Calls Tryz.prog 19 #[.pointer none] w fun e w' => e = .returned (.slice none 0 0) ∧ w = w' := by
 go_enter Tryz.func19,Tryz.ntmps19
 go_wp2
 go_ret
 exact ⟨rfl,rfl⟩
end Go.Proofs.YtobbofdnhbgioaaGreatDoor.OpsR