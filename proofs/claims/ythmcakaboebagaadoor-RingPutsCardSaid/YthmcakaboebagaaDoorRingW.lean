/- What the laws of layer 7 behind the door ask of the project's functions; the walk of RingGets over it. -/
import Derived.Test.YthmcakaboebagaaDoorRingG
import Derived.Test.YthmcakaboebagaaDoorRingX
import Derived.Test.YthmcakaboebagaaDoorRingQ
namespace Go.Proofs.YthmcakaboebagaaDoor.RingW
set_option linter.unusedVariables false
set_option linter.unusedSimpArgs false
open Go.RowKit
open Go.Proofs.YthmcakaboebagaaDoor.Byte Go.Proofs.YthmcakaboebagaaDoor.PackM Go.Proofs.YthmcakaboebagaaDoor.PackW Go.Proofs.YthmcakaboebagaaDoor.PlaceM Go.Proofs.YthmcakaboebagaaDoor.PlaceV Go.Proofs.YthmcakaboebagaaDoor.PlaceG Go.Proofs.YthmcakaboebagaaDoor.PlaceH Go.Proofs.YthmcakaboebagaaDoor.RingM Go.Proofs.YthmcakaboebagaaDoor.RingN Go.Proofs.YthmcakaboebagaaDoor.RingR Go.Proofs.YthmcakaboebagaaDoor.RingC Go.Proofs.YthmcakaboebagaaDoor.RingB Go.Proofs.YthmcakaboebagaaDoor.RingG Go.Proofs.YthmcakaboebagaaDoor.RingX Go.Proofs.YthmcakaboebagaaDoor.RingQ Go.Proofs.YthmcakaboebagaaDoor.Own

attribute [local go_sem] Own.run_store_complex
def FixedOk : Prop := ∀ w : World, Calls Tryd.prog 8 #[] w fun e w' => e = .returned (.bool true) ∧ Below w.heap.size w w'
def SizeOk : Prop := ∀ (a b : ByteArray) (w : World), a.size ≤ maxLen → b.size ≤ maxLen → Calls Tryd.prog 12 #[.string a, .string b] w fun e w' => e = .returned (.int .i64 (size a.size b.size)) ∧ w = w'
def MayOk : Prop := ∀ (x : It) (w : World), x.key.size ≤ maxLen → x.value.size ≤ maxLen → Calls Tryd.prog 9 #[.agg #[.int .u64 x.seq, .int .u64 x.ver, .int .i64 x.index, .int .i64 x.count, .complex .f64 x.re x.im, .bool x.gone, .string x.key, .string x.value]] w fun e w' => e = .returned (.bool (may x)) ∧ Below w.heap.size w w'
def GetOk : Prop := ∀ (A : Option Addr) (n c : Nat) (xs : List Int) (w : World), Bs w A n xs → n ≤ 100000 → n ≤ c → Nowhere w → Calls Tryd.prog 10 #[.slice A n c] w (ItE (gans xs) (gerr xs) w)
def PutOk : Prop := ∀ (x : It) (w : World), mayP x → 0 ≤ x.seq → x.seq ≤ 18446744073709551615 → 0 ≤ x.ver → x.ver ≤ 18446744073709551615 → Nowhere w →
  Calls Tryd.prog 6 #[.agg #[.int .u64 x.seq, .int .u64 x.ver, .int .i64 x.index, .int .i64 x.count, .complex .f64 x.re x.im, .bool x.gone, .string x.key, .string x.value]] w
    fun e w' => ∃ A c, e = .returned (.tuple #[.slice A (writ x).length c, .int .i64 0]) ∧ Bs w' A (writ x).length (writ x) ∧ (writ x).length ≤ c ∧ Below w.heap.size w w'
def PutNo : Prop := ∀ (x : It) (w : World), may x = false → x.key.size ≤ maxLen → x.value.size ≤ maxLen →
  Calls Tryd.prog 6 #[.agg #[.int .u64 x.seq, .int .u64 x.ver, .int .i64 x.index, .int .i64 x.count, .complex .f64 x.re x.im, .bool x.gone, .string x.key, .string x.value]] w
    fun e w' => ∃ A c, e = .returned (.tuple #[.slice A 0 c, .int .i64 1]) ∧ Below w.heap.size w w'

theorem conv_of {w : World} {A : Option Addr} {n c : Nat} {xs : List Int} {t : ByteArray} (h : Bs w A n xs) (ht : str xs = t) : (convert 30 9 (.slice A n c)).run Tryd.prog w = .ok (.string t) w := by
  subst ht
  exact h.str_ (P := Tryd.prog) 30 9 Tryd.underlying30 Tryd.underlying5 Tryd.underlying9
theorem ans_order {xs : List Int} (hb : ∀ k, 0 ≤ xs.getD k 0 ∧ xs.getD k 0 ≤ 255) : FloatKind.f64.format.order (gans xs).re (gans xs).re = some .eq ∧ FloatKind.f64.format.order (gans xs).im (gans xs).im = some .eq := by
  unfold gans
  split
  · have b18 := hb 18
    have b19 := hb 19
    have b20 := hb 20
    unfold gitem gre gim
    dsimp only
    split
    · exact ⟨order_minus, order0⟩
    · exact ⟨order_fi _ b18.1 (by omega), order_fi _ (by omega) (by omega)⟩
  · exact ⟨order0, order0⟩
theorem ans_bd {xs : List Int} (hb : ∀ x ∈ xs, 0 ≤ x ∧ x ≤ 255) : 0 ≤ (gans xs).seq ∧ (gans xs).seq ≤ 18446744073709551615 ∧ 0 ≤ (gans xs).ver ∧ (gans xs).ver ≤ 18446744073709551615 := by
  unfold gans
  split
  · have h1 := get_bd xs 0 8 hb
    have h2 := get_bd xs 8 8 hb
    unfold gitem
    dsimp only
    omega
  · decide
set_option maxRecDepth 100000 in
set_option maxHeartbeats 4000000 in
theorem gets_law (hX : FixedOk) (hG : GetOk) (hP : PutOk) (A : Option Addr) (n c : Nat) (xs : List Int) (w : World) (hb : Bs w A n xs) (hn : n ≤ maxLen) (hc : n ≤ c) (hN : Nowhere w) :
    Calls Tryd.prog 4 #[.slice A n c] w fun e w' => e = .returned (.bool true) ∧ Below w.heap.size w w' := by
  unfold maxLen at hn
  have HX := Lib.hid hX
  clear hX
  by_cases hbig : 500 < n
  · clear hG hP
    go_enter Tryd.func4, Tryd.ntmps4
    go_wp2_with (go_at_call 8; refine (HX.out _).mono ?_; rintro e w' ⟨rfl, hbel⟩)
    go_ret
    exact ⟨rfl, hbel⟩
  have d1 : decide (500 < (n : Int)) = false := by simp; omega
  have HB := Lib.hid hb
  have HN := Lib.hid hN
  have HG := Lib.hid (fun w hb hN => hG A n c xs w hb (by omega) hc hN)
  have HR := Lib.hid (fun w hb => refget_item A n c xs w hb (by omega))
  have hord := ans_order hb.bd
  have hbd := ans_bd hb.2.1
  have HST := Lib.hid (fun h => stood hb.2.1 h)
  obtain ⟨x, hx⟩ : ∃ x, gans xs = x := ⟨_, rfl⟩
  obtain ⟨er, her⟩ : ∃ er, gerr xs = er := ⟨_, rfl⟩
  rw [hx] at HG HR hord hbd HST
  rw [her] at HG HR HST
  clear hx her hG hb hN
  have HPP := Lib.hid (fun w (hm : mayP x) => hP x w hm hbd.1 hbd.2.1 hbd.2.2.1 hbd.2.2.2)
  clear hP
  obtain ⟨seq, ver, index, count, re, im, gone, key, value⟩ := x
  dsimp only at hord hbd
  have heq := fun w => eq_item seq ver index count re im re im gone key value w hord.1 hord.2
  clear hord
  go_enter Tryd.func4, Tryd.ntmps4
  go_wp2_with fail
  refine (HG.out _ HB.out HN.out).mono ?_
  rintro e w1 ⟨rfl, hb1⟩
  have HN1 := Lib.hid (HN.out.below hb1)
  have HBL1 := Lib.hid (hb1.alloc hb1.size (.cells (cells ⟨seq, ver, index, count, re, im, gone, key, value⟩) 28))
  have HI1 := Lib.hid (Blk.new_ w1 (cells ⟨seq, ver, index, count, re, im, gone, key, value⟩) 28)
  clear hb1
  go_wp2_with fail
  refine (HR.out _ (HB.out.below HBL1.out)).mono ?_
  rintro e w2 ⟨rfl, hb2⟩
  have HBL2 := Lib.hid ((keeps HBL1.out hb2).alloc (keeps HBL1.out hb2).size (.cells (cells ⟨seq, ver, index, count, re, im, gone, key, value⟩) 28))
  have HI2 := Lib.hid ((HI1.out.below hb2).alloc (.cells (cells ⟨seq, ver, index, count, re, im, gone, key, value⟩) 28))
  have HJ2 := Lib.hid (Blk.new_ w2 (cells ⟨seq, ver, index, count, re, im, gone, key, value⟩) 28)
  have hne := HI1.out.lt
  clear hb2
  go_wp2_with fail
  refine (HX.out _).mono ?_
  rintro e w3 ⟨rfl, hb3⟩
  have HBL3 := Lib.hid (keeps HBL2.out hb3)
  have hI := HI2.out.below hb3
  have hJ := HJ2.out.below hb3
  have i0 := hI.cell 0
  have i1 := hI.cell 1
  have i2 := hI.cell 2
  have i3 := hI.cell 3
  have i4 := hI.cell 4
  have i5 := hI.cell 5
  have i6 := hI.cell 6
  have i7 := hI.cell 7
  have j0 := hJ.cell 0
  have j1 := hJ.cell 1
  have j2 := hJ.cell 2
  have j3 := hJ.cell 3
  have j4 := hJ.cell 4
  have j5 := hJ.cell 5
  have j6 := hJ.cell 6
  have j7 := hJ.cell 7
  have ee : (er != er) = false := by simp
  clear hb3
  by_cases h0 : er = 0
  · subst h0
    obtain ⟨hm, hwr⟩ := HST.out rfl
    have HWR := Lib.hid hwr
    have HPC := Lib.hid (fun w => HPP.out w hm)
    clear hm hwr
    go_wp2_with fail
    refine (HPC.out _ (HN.out.below HBL3.out)).mono ?_
    rw [HWR.out]
    rintro e w4 ⟨B, cb, rfl, hbs, hcb, hb4⟩
    obtain ⟨t, ht⟩ : ∃ t, str xs = t := ⟨_, rfl⟩
    have h1 := conv_of (c := cb) hbs ht
    have h2 := conv_of (c := c) (HB.out.below (keeps HBL3.out hb4)) ht
    have HBL4 := Lib.hid (keeps HBL3.out hb4)
    clear hbs hb4 ht
    go_wp2_with fail
    go_ret
    exact ⟨rfl, HBL4.out⟩
  · have hz : (er != 0) = true := by rw [bne_iff_ne]; exact h0
    clear h0
    go_wp2_with fail
    go_ret
    exact ⟨rfl, HBL3.out⟩
end Go.Proofs.YthmcakaboebagaaDoor.RingW
