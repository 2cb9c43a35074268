/- The contract of layer 7's law's Raw.Item: an item by its place's bits. -/
import Derived.Test.YthmcakaboebagaaRingC
import Derived.Test.YthmcakaboebagaaPlaceG
import Derived.StillTailTactics
namespace Go.Proofs.Ythmcakaboebagaa.RingI
set_option linter.unusedVariables false
set_option linter.unusedSimpArgs false
open Go.RowKit
open Go.Proofs.Ythmcakaboebagaa.Byte Go.Proofs.Ythmcakaboebagaa.RingM Go.Proofs.Ythmcakaboebagaa.RingN Go.Proofs.Ythmcakaboebagaa.RingC Go.Proofs.Ythmcakaboebagaa.PlaceG Go.Proofs.Ythmcakaboebagaa.Own

attribute [local go_sem] Own.run_store_complex
set_option maxRecDepth 100000 in
set_option maxHeartbeats 2000000 in
theorem item_calls (seq ver index count a b : Int) (gone : Bool) (key value : ByteArray) (w : World) :
    Calls Try.prog 26 #[.agg #[.int .u64 seq, .int .u64 ver, .int .i64 index, .int .i64 count, .int .u64 a, .int .u64 b, .bool gone, .string key, .string value]] w
      fun e w' => e = .returned (.agg (cells ⟨seq, ver, index, count, a.toNat, b.toNat, gone, key, value⟩)) ∧ Below w.heap.size w w' := by
  go_enter Try.func26, Try.ntmps26
  go_wp2_with fail
  obtain ⟨W, hW⟩ : ∃ W, (w.alloc (.cells #[.int .u64 seq, .int .u64 ver, .int .i64 index, .int .i64 count, .int .u64 a, .int .u64 b, .bool gone, .string key, .string value] 65)).alloc (.cells zer 33) = W := ⟨_, rfl⟩
  change Code.wp _ _ _ _ ((w.alloc (.cells #[.int .u64 seq, .int .u64 ver, .int .i64 index, .int .i64 count, .int .u64 a, .int .u64 b, .bool gone, .string key, .string value] 65)).alloc (.cells zer 33))
  rw [hW]
  have hA : Blk W w.heap.size #[.int .u64 seq, .int .u64 ver, .int .i64 index, .int .i64 count, .int .u64 a, .int .u64 b, .bool gone, .string key, .string value] 65 := by
    rw [← hW]
    exact (Blk.new_ w _ _).alloc _
  have hB : Blk W (w.heap.size + 1) zer 33 := by
    rw [← hW]
    have := Blk.new_ (w.alloc (.cells #[.int .u64 seq, .int .u64 ver, .int .i64 index, .int .i64 count, .int .u64 a, .int .u64 b, .bool gone, .string key, .string value] 65)) zer 33
    simpa using this
  have hw : Below w.heap.size w W := by
    rw [← hW]
    exact ((Below.refl _ _).alloc (Nat.le_refl _) _).alloc (by simp) _
  clear hW
  have c0 := hA.cell 0
  have c1 := hA.cell 1
  have c2 := hA.cell 2
  have c3 := hA.cell 3
  have c4 := hA.cell 4
  have c5 := hA.cell 5
  have c6 := hA.cell 6
  have c7 := hA.cell 7
  have c8 := hA.cell 8
  go_still_tail 22, (by kernel_rfl)
  still_call ((at_calls a b _).mono fun _ _ h => ⟨h.1, h.2.symm⟩)
  repeat still_step
  refine wpStill_nil ?_
  change wpList _ _ _ _ _ W.drew
  clear c0 c1 c2 c3 c4 c5 c6 c7 c8
  go_wp2_with ((with_reducible refine pick none ?_); refine store_blk rfl 33 (.tmp 2) _ rfl (w.heap.size + 1) (cells ⟨seq, ver, index, count, a.toNat, b.toNat, gone, key, value⟩) rfl rfl 33 zer hB.drew info_item rfl (cells_one _) ?_; intro w2 hB2 hg2)
  refine bodyPost_ret (v := .agg (cells ⟨seq, ver, index, count, a.toNat, b.toNat, gone, key, value⟩)) (results_cell_row (fn := Try.f26) rfl _ _ (w.heap.size + 1) 33 _ (0, 0) _ rfl hB2 Try.underlying33 rfl info_item) rfl ⟨rfl, ?_⟩
  exact hw.drew.grown hg2 hw.size (by intro k hk; injection hk with hk; omega)
end Go.Proofs.Ythmcakaboebagaa.RingI
