/- Sectors compared: the document's Same and SameSector of layer 8. -/
import Derived.Test.YthbafcihmcjchaaDoorScanM
import Derived.Test.YthbafcihmcjchaaDoorRingS
import Derived.Test.YthbafcihmcjchaaDoorRingQ
import Derived.Deep.QuietTactic
import Derived.BigQuiet
import Derived.IntWalk
namespace Go.Proofs.YthbafcihmcjchaaDoor.ScanP
set_option linter.unusedVariables false
set_option linter.unusedSimpArgs false
open Go.RowKit
open Go.Proofs.YthbafcihmcjchaaDoor.Byte Go.Proofs.YthbafcihmcjchaaDoor.RingM Go.Proofs.YthbafcihmcjchaaDoor.RingN Go.Proofs.YthbafcihmcjchaaDoor.RingC Go.Proofs.YthbafcihmcjchaaDoor.RingK Go.Proofs.YthbafcihmcjchaaDoor.RingF Go.Proofs.YthbafcihmcjchaaDoor.RingS Go.Proofs.YthbafcihmcjchaaDoor.RingQ Go.Proofs.YthbafcihmcjchaaDoor.ScanM Go.Proofs.YthbafcihmcjchaaDoor.Own

/-- No number of its places is NaN. -/
def Rf (x : Fnd) : Prop := FloatKind.f64.format.order x.re x.re = some .eq ∧ FloatKind.f64.format.order x.im x.im = some .eq ∧ FloatKind.f64.format.order x.item.re x.item.re = some .eq ∧ FloatKind.f64.format.order x.item.im x.item.im = some .eq
set_option maxRecDepth 100000 in
theorem eq_found (re im : Nat) (sz : Int) (st : Bool) (seq ver index count : Int) (r i : Nat) (gone : Bool) (key value : ByteArray) (w : World) (h1 : FloatKind.f64.format.order re re = some .eq) (h2 : FloatKind.f64.format.order im im = some .eq) (h3 : FloatKind.f64.format.order r r = some .eq) (h4 : FloatKind.f64.format.order i i = some .eq) :
    (Op.equalIn 10000 52 (.agg #[.complex .f64 re im, .int .i64 sz, .bool st, .int .u64 seq, .int .u64 ver, .int .i64 index, .int .i64 count, .complex .f64 r i, .bool gone, .string key, .string value]) (.agg #[.complex .f64 re im, .int .i64 sz, .bool st, .int .u64 seq, .int .u64 ver, .int .i64 index, .int .i64 count, .complex .f64 r i, .bool gone, .string key, .string value])).run Tryd.prog w = .ok true w := by
  have hc := fun w => eq_complex 9998 re im re im w h1 h2
  have hc2 := fun w => eq_complex 9997 r i r i w h3 h4
  have hi : ∀ w : World, (Op.equalIn 9999 47 (.agg #[.int .u64 seq, .int .u64 ver, .int .i64 index, .int .i64 count, .complex .f64 r i, .bool gone, .string key, .string value]) (.agg #[.int .u64 seq, .int .u64 ver, .int .i64 index, .int .i64 count, .complex .f64 r i, .bool gone, .string key, .string value])).run Tryd.prog w = .ok true w := by
    intro w
    rw [show (9999 : Nat) = 9998 + 1 from rfl, run_equalIn_struct w 9998 47 _ _ (by kernel_rfl) (by kernel_rfl)]
    have u1 := Tryd.underlying36
    have u2 := Tryd.underlying3
    have u3 := Tryd.underlying4
    have u4 := Tryd.underlying9
    have hfs : Tryd.prog.fieldsOf 47 = (match Tryd.prog.underlying 47 with | some (.struct fs) => fs | _ => #[]) := rfl
    rw [hfs, Tryd.underlying47]
    go_simp
  rw [show (10000 : Nat) = 9999 + 1 from rfl, run_equalIn_struct w 9999 52 _ _ (by kernel_rfl) (by kernel_rfl)]
  have u2 := Tryd.underlying3
  have u3 := Tryd.underlying4
  have hfs : Tryd.prog.fieldsOf 52 = (match Tryd.prog.underlying 52 with | some (.struct fs) => fs | _ => #[]) := rfl
  rw [hfs, Tryd.underlying52]
  go_simp
set_option maxRecDepth 100000 in
set_option maxHeartbeats 4000000 in
theorem same_calls (A B : Option Addr) (n c c' : Nat) (L : List Fnd) (w : World) (hn : n ≤ 1000000) (hA : FsAt w A n L) (hB : FsAt w B n L) (hr : ∀ x ∈ L, Rf x) :
    Calls Tryd.prog 11 #[.slice A n c, .slice B n c'] w fun e w' => e = .returned (.bool true) ∧ Below w.heap.size w w' := by
  have HA := Lib.hid hA
  have HB := Lib.hid hB
  have HR := Lib.hid hr
  clear hA hB hr
  have d : ((n : Int) != n) = false := by simp
  go_enter Tryd.func11, Tryd.ntmps11
  go_wp2_with fail
  go_loopw [13] (fun i wr => ∃ j : Nat, j ≤ n ∧ i = .int .i64 j ∧ Below w.heap.size w wr) (fun i _ => n - (intOf i).toNat)
  case atStart => exact ⟨0, Nat.zero_le _, rfl, Below.refl _ _⟩
  case round =>
    obtain ⟨j, hj, rfl, hbel⟩ := hrel
    have HBL := Lib.hid hbel
    by_cases hlt : j < n
    · have hl : j < L.length := by rw [HA.out.1]; exact hlt
      obtain ⟨x, hx⟩ : ∃ x, L[j]? = some x := ⟨_, List.getElem?_eq_getElem hl⟩
      obtain ⟨bA, oA, rfl, _, ca⟩ := (HA.out.below hbel).2 j x hx
      obtain ⟨bB, oB, rfl, _, cb⟩ := (HB.out.below hbel).2 j x hx
      obtain ⟨r1, r2, r3, r4⟩ := HR.out x (List.mem_of_getElem? hx)
      obtain ⟨re, im, sz, st, ⟨seq, ver, index, count, ir, ii, gone, key, value⟩⟩ := x
      dsimp only at r1 r2 r3 r4
      have heq := fun w => eq_found re im sz st seq ver index count ir ii gone key value w r1 r2 r3 r4
      have a0 : wr.cell? ⟨bA, oA + j * 11, none⟩ = some (.complex .f64 re im) := ca 0 _ rfl
      have a1 : wr.cell? ⟨bA, oA + j * 11 + 1, none⟩ = some (.int .i64 sz) := ca 1 _ rfl
      have a2 : wr.cell? ⟨bA, oA + j * 11 + 2, none⟩ = some (.bool st) := ca 2 _ rfl
      have a3 : wr.cell? ⟨bA, oA + j * 11 + 3, none⟩ = some (.int .u64 seq) := ca 3 _ rfl
      have a4 : wr.cell? ⟨bA, oA + j * 11 + 4, none⟩ = some (.int .u64 ver) := ca 4 _ rfl
      have a5 : wr.cell? ⟨bA, oA + j * 11 + 5, none⟩ = some (.int .i64 index) := ca 5 _ rfl
      have a6 : wr.cell? ⟨bA, oA + j * 11 + 6, none⟩ = some (.int .i64 count) := ca 6 _ rfl
      have a7 : wr.cell? ⟨bA, oA + j * 11 + 7, none⟩ = some (.complex .f64 ir ii) := ca 7 _ rfl
      have a8 : wr.cell? ⟨bA, oA + j * 11 + 8, none⟩ = some (.bool gone) := ca 8 _ rfl
      have a9 : wr.cell? ⟨bA, oA + j * 11 + 9, none⟩ = some (.string key) := ca 9 _ rfl
      have a10 : wr.cell? ⟨bA, oA + j * 11 + 10, none⟩ = some (.string value) := ca 10 _ rfl
      have b0 : wr.cell? ⟨bB, oB + j * 11, none⟩ = some (.complex .f64 re im) := cb 0 _ rfl
      have b1 : wr.cell? ⟨bB, oB + j * 11 + 1, none⟩ = some (.int .i64 sz) := cb 1 _ rfl
      have b2 : wr.cell? ⟨bB, oB + j * 11 + 2, none⟩ = some (.bool st) := cb 2 _ rfl
      have b3 : wr.cell? ⟨bB, oB + j * 11 + 3, none⟩ = some (.int .u64 seq) := cb 3 _ rfl
      have b4 : wr.cell? ⟨bB, oB + j * 11 + 4, none⟩ = some (.int .u64 ver) := cb 4 _ rfl
      have b5 : wr.cell? ⟨bB, oB + j * 11 + 5, none⟩ = some (.int .i64 index) := cb 5 _ rfl
      have b6 : wr.cell? ⟨bB, oB + j * 11 + 6, none⟩ = some (.int .i64 count) := cb 6 _ rfl
      have b7 : wr.cell? ⟨bB, oB + j * 11 + 7, none⟩ = some (.complex .f64 ir ii) := cb 7 _ rfl
      have b8 : wr.cell? ⟨bB, oB + j * 11 + 8, none⟩ = some (.bool gone) := cb 8 _ rfl
      have b9 : wr.cell? ⟨bB, oB + j * 11 + 9, none⟩ = some (.string key) := cb 9 _ rfl
      have b10 : wr.cell? ⟨bB, oB + j * 11 + 10, none⟩ = some (.string value) := cb 10 _ rfl
      have hji : (j : Int) < n := by omega
      clear ca cb hbel
      go_wp2_with fail
      go_quiet (fail)
      go_wp2_with fail
      go_roundw
      case rel => exact ⟨j + 1, by omega, by go_num, HBL.out.trans (below_drewN (Below.refl _ _) _)⟩
      case measure => simp [intOf]; omega
    · obtain rfl : j = n := by omega
      clear hbel
      go_wp2_with fail
      go_ret
      exact ⟨rfl, HBL.out⟩
set_option maxRecDepth 100000 in
set_option maxHeartbeats 4000000 in
theorem samesector_calls (c e : Int) (f : Bool) (A B : Option Addr) (n p p' : Nat) (L : List Fnd) (w : World) (hn : n ≤ 1000000) (hA : FsAt w A n L) (hB : FsAt w B n L) (hr : ∀ x ∈ L, Rf x) :
    Calls Tryd.prog 5 #[.agg #[.int .i64 c, .int .i64 e, .bool f, .slice A n p], .agg #[.int .i64 c, .int .i64 e, .bool f, .slice B n p']] w fun en w' => en = .returned (.bool true) ∧ Below w.heap.size w w' := by
  have HS := Lib.hid (fun w hA hB => same_calls A B n p p' L w hn hA hB hr)
  have HA := Lib.hid hA
  have HB := Lib.hid hB
  clear hA hB hr
  have d1 : (c == c) = true := by simp
  have d2 : (e == e) = true := by simp
  have d3 : (f == f) = true := by simp
  go_enter Tryd.func5, Tryd.ntmps5
  go_wp2_with fail
  obtain ⟨W, hW⟩ : ∃ W, (w.alloc (.cells #[.int .i64 c, .int .i64 e, .bool f, .slice A n p] 29)).alloc (.cells #[.int .i64 c, .int .i64 e, .bool f, .slice B n p'] 29) = W := ⟨_, rfl⟩
  have hb : Below w.heap.size w W := by rw [← hW]; exact ((Below.refl _ _).alloc (Nat.le_refl _) _).alloc (by simp) _
  rw [hW]
  refine (HS.out _ (HA.out.below hb) (HB.out.below hb)).mono ?_
  rintro en w' ⟨rfl, hb2⟩
  have HB2 := Lib.hid (keeps hb hb2)
  clear hb hb2 hW
  go_wp2_with fail
  go_ret
  exact ⟨rfl, HB2.out⟩
end Go.Proofs.YthbafcihmcjchaaDoor.ScanP
