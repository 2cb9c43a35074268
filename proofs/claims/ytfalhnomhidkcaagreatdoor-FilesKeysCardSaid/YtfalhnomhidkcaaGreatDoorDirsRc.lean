import Derived.Test.YtfalhnomhidkcaaGreatDoorSq
import Derived.Test.YtfalhnomhidkcaaGreatDoorDirsRa
set_option maxHeartbeats 16000000
set_option linter.unusedVariables false
set_option linter.unusedSimpArgs false
set_option maxRecDepth 100000
namespace Go.Proofs.YtfalhnomhidkcaaGreatDoor.DirsRc
open Go.RowKit
open Byte KeysM TreeM Lst Ho Tx DirsM Chg DirsR DirsRa
open Own hiding keeps
open ViewR (Sh)
def spotA (s : Spt) : Value := .agg #[.int .u32 s.dir,.string s.name,.int .u32 s.ino]
theorem new_calls {T : Nat → Prop} (w : World) (hT : ∀ b,w.heap.size ≤ b → T b) : Calls Tryz.prog 13 #[] w (FsE T [⟨1,2,2,NE,[]⟩] w) := by
 obtain ⟨W,hW⟩ : ∃ W,w.alloc (.cells #[.slice none 0 0] 29) = W := ⟨_,rfl⟩
 have hB0 : Blk W w.heap.size #[.slice none 0 0] 29 := by rw [← hW]; exact Blk.new_ w _ _
 have HB0 := hQ_ hB0
 have hbw : Below w.heap.size w W := by rw [← hW]; exact bW_
 have HBW := hQ_ hbw
 have HSL := hQ_ (Sl.new_ nhE W 85 ((⟨1,2,2,NE,[]⟩ : Nd),(⟨none,0,0⟩ : Sh)) #[.int .u32 1,.int .u8 2,.int .i64 2,.string ⟨#[]⟩,.slice none 0 0] rfl)
 have HBA := hQ_ ((Below.refl W.heap.size W).alloc (Nat.le_refl _) (.cells #[.int .u32 1,.int .u8 2,.int .i64 2,.string ⟨#[]⟩,.slice none 0 0] 85))
 have HB2 := hQ_ (HB0.out.below HBA.out)
 have HT := hQ_ hT
 clear hB0 hbw hT
 subst hW
 have hsz : (w.alloc (.cells #[.slice none 0 0] 29)).heap.size = w.heap.size + 1 := by simp
 rw [hsz] at HSL
 have hbs := HBA.out.size
 go_enter Tryz.func13,Tryz.ntmps13
 go_wp2_with ((with_reducible refine pick none ?_); refine store_blk rfl 29 _ _ rfl w.heap.size #[.slice (some ⟨w.heap.size + 1,0,none⟩) 1 1] rfl rfl 29 _ HB2.out info_fs rfl (by simp [Value.oneCell']) ?_; intro w5 hk5 hg5)
 have hb5 : Below w.heap.size w w5 := (Own.keeps HBW.out HBA.out).grown hg5 (by simp; omega) (fun k hk => by injection hk with hk; omega)
 have hF : FsA (But T w.heap.size) ((w.alloc (.cells #[.slice none 0 0] 29)).alloc (.cells #[.int .u32 1,.int .u8 2,.int .i64 2,.string ⟨#[]⟩,.slice none 0 0] 85)) ⟨some ⟨w.heap.size + 1,0,none⟩,1,1⟩ [⟨1,2,2,NE,[]⟩] := by
  refine ⟨_,rfl,HSL.out,fun b o e => ?_,fun p hp => ?_⟩
  ·dsimp only at e
   injection e with e
   injection e with e1 e2
   subst e1
   exact ⟨⟨HT.out _ (by omega),by omega⟩,by simp⟩
  ·rw [List.mem_singleton.1 hp]
   exact ⟨Sl.nil_ _ _ _,fun b o e => by cases e⟩
 exact bodyPost_ret (v := .agg #[.slice (some ⟨w.heap.size + 1,0,none⟩) 1 1]) (results_cell_row rfl _ _ w.heap.size 29 _ (0,0) _ rfl hk5 Tryz.underlying29 rfl info_fs) rfl ⟨⟨some ⟨w.heap.size + 1,0,none⟩,1,1⟩,rfl,fs_store hF hg5,hb5⟩
end Go.Proofs.YtfalhnomhidkcaaGreatDoor.DirsRc