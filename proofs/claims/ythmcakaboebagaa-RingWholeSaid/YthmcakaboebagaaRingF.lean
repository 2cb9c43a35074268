/- The contract of layer 7's law's Found: found items by their places' bits. -/
import Derived.Test.YthmcakaboebagaaRingI
import Derived.Test.YthmcakaboebagaaRingV
import Derived.Test.YthmcakaboebagaaRingK
import Derived.Deep.MidRow
import Derived.Deep.RegionHeld3
import Derived.Deep.AppendLies
namespace Go.Proofs.Ythmcakaboebagaa.RingF
set_option linter.unusedVariables false
set_option linter.unusedSimpArgs false
open Go.RowKit
open Go.Proofs.Ythmcakaboebagaa.Byte Go.Proofs.Ythmcakaboebagaa.RingM Go.Proofs.Ythmcakaboebagaa.RingN Go.Proofs.Ythmcakaboebagaa.RingC Go.Proofs.Ythmcakaboebagaa.RingK Go.Proofs.Ythmcakaboebagaa.PlaceG Go.Proofs.Ythmcakaboebagaa.Own

attribute [local go_sem] Own.run_store_complex
/-- A found item by its places' bits, as it came in. -/
structure Pr where
  a0 : Int
  a1 : Int
  settled : Bool
  seq : Int
  ver : Int
  index : Int
  count : Int
  n0 : Int
  n1 : Int
  gone : Bool
  key : ByteArray
  value : ByteArray
def Pr.cells (p : Pr) : List Value := [.int .u64 p.a0, .int .u64 p.a1, .bool p.settled, .int .u64 p.seq, .int .u64 p.ver, .int .i64 p.index, .int .i64 p.count, .int .u64 p.n0, .int .u64 p.n1, .bool p.gone, .string p.key, .string p.value]
def Pr.it (p : Pr) : It := ⟨p.seq, p.ver, p.index, p.count, p.n0.toNat, p.n1.toNat, p.gone, p.key, p.value⟩
def _root_.Go.Proofs.Ythmcakaboebagaa.RingK.Fnd.cells (f : Fnd) : List Value := .complex .f64 f.re f.im :: .int .i64 f.size :: .bool f.settled :: (RingC.cells f.item).toList
def Pr.fd (p : Pr) : Fnd := ⟨p.a0.toNat, p.a1.toNat, RingM.size p.key.size p.value.size, p.settled, p.it⟩
def PrsAt (w : World) (A : Option Addr) (m : Nat) (ps : Nat → Pr) : Prop :=
  ∀ j, j < m → ∃ b o, A = some ⟨b, o, none⟩ ∧ b < w.heap.size ∧ w.rangeAt b (o + j * 12) (ps j).cells
theorem PrsAt.below {w w' : World} {A : Option Addr} {m : Nat} {ps : Nat → Pr} (h : PrsAt w A m ps) (hb : Below w.heap.size w w') : PrsAt w' A m ps := fun j hj => by
  obtain ⟨b, o, e, hlt, hc⟩ := h j hj
  exact ⟨b, o, e, Nat.lt_of_lt_of_le hlt hb.size, fun i v hv => (hb.cell (p := ⟨b, o + j * 12 + i, none⟩) hlt).trans (hc i v hv)⟩
/-- A row of found items of the call's own; nil where there is none. -/
def Fds (w : World) (base : Nat) (v : Value) (n : Nat) (f : Nat → Fnd) : Prop := w.ownsRow base 35 11 v n ((List.range n).flatMap fun j => (f j).cells)
theorem info_found : (Try.prog.info? 35).map (fun i => (i.zero, i.size, i.bytes)) = some (some (.agg #[.complex .f64 0 0, .int .i64 0, .bool false, .int .u64 0, .int .u64 0, .int .i64 0, .int .i64 0, .complex .f64 0 0, .bool false, .string ⟨#[]⟩, .string ⟨#[]⟩]), 11, 120) := by kernel_rfl
theorem own_below {w w' : World} {base n size : Nat} {e : TypeId} {v : Value} {xs : List Value} (h : w.ownsRow base e size v n xs) (hb : Below w.heap.size w w') : w'.ownsRow base e size v n xs :=
  h.kept (row := none) ⟨hb.os, hb.tape, hb.output, hb.size, fun k hk _ => hb.block k hk⟩ (by
    cases hv : v.ownBlock with
    | none => exact .inl rfl
    | some g => exact .inr (by simp))
theorem own_lt {w : World} {base n size : Nat} {e : TypeId} {v : Value} {xs : List Value} (h : w.ownsRow base e size v n xs) (g : Nat) (hg : v.ownBlock = some g) : base ≤ g ∧ g < w.heap.size := h.lt g hg
theorem info_put : (Try.prog.info? 67).map (·.size) = some 12 := by kernel_rfl
set_option maxRecDepth 100000 in
set_option maxHeartbeats 4000000 in
theorem found_calls (A : Option Addr) (n c : Nat) (ps : Nat → Pr) (w : World) (hS : RingV.SizeOk) (hp : PrsAt w A n ps) (hn : n ≤ 60) (hk : ∀ j, j < n → (ps j).key.size ≤ maxLen ∧ (ps j).value.size ≤ maxLen) :
    Calls Try.prog 15 #[.slice A n c] w fun e w' => ∃ v, e = .returned v ∧ Fds w' w.heap.size v n (fun j => (ps j).fd) ∧ Below w.heap.size w w' := by
  have HP := Lib.hid hp
  have HK := Lib.hid hk
  have HS := Lib.hid hS
  clear hp hk hS
  go_enter Try.func15, Try.ntmps15
  go_wp2_with fail
  go_loopw [3, 9] (fun u i wr => ∃ (k : Nat) (v : Value), k ≤ n ∧ i = .int .i64 k ∧ v = u ∧ Fds wr w.heap.size v k (fun j => (ps j).fd) ∧ Below w.heap.size w wr) (fun _ i _ => n - (intOf i).toNat)
  case atStart => exact ⟨0, _, Nat.zero_le _, rfl, rfl, ⟨rfl, .inl ⟨rfl, rfl⟩⟩, Below.refl _ _⟩
  case round =>
    obtain ⟨k, v, hk, rfl, rfl, hrow, hbel⟩ := hrel
    by_cases hlt : k < n
    · obtain ⟨b, o, rfl, _, hc⟩ := (HP.out.below hbel) k hlt
      obtain ⟨p, hpk⟩ : ∃ p, ps k = p := ⟨_, rfl⟩
      have hsz := HK.out k hlt
      rw [hpk] at hc hsz
      have HPK := Lib.hid hpk
      clear hpk
      obtain ⟨a0, a1, settled, seq, ver, index, count, n0, n1, gone, key, value⟩ := p
      have HC : Hid (wr.rangeAt b (o + k * 12) [.int .u64 a0, .int .u64 a1, .bool settled, .int .u64 seq, .int .u64 ver, .int .i64 index, .int .i64 count, .int .u64 n0, .int .u64 n1, .bool gone, .string key, .string value]) := Lib.hid hc
      have HRW := Lib.hid hrow
      have HBL := Lib.hid hbel
      have hbs := hbel.size
      dsimp only at hsz
      clear hc hrow hbel
      go_wp2_with ((with_reducible refine pick (some 12) ?_); refine wpList_load_mid rfl 67 _ rfl b (o + k * 12) rfl [.int .u64 a0, .int .u64 a1, .bool settled, .int .u64 seq, .int .u64 ver, .int .i64 index, .int .i64 count, .int .u64 n0, .int .u64 n1, .bool gone, .string key, .string value] _ HC.out Try.underlying67 rfl info_put ?_)
      have hA : Blk (wr.alloc (.cells #[.int .u64 a0, .int .u64 a1, .bool settled, .int .u64 seq, .int .u64 ver, .int .i64 index, .int .i64 count, .int .u64 n0, .int .u64 n1, .bool gone, .string key, .string value] 67)) wr.heap.size #[.int .u64 a0, .int .u64 a1, .bool settled, .int .u64 seq, .int .u64 ver, .int .i64 index, .int .i64 count, .int .u64 n0, .int .u64 n1, .bool gone, .string key, .string value] 67 := Blk.new_ _ _ _
      refine (RingI.item_calls seq ver index count n0 n1 gone key value _).mono ?_
      rintro e w1 ⟨rfl, hb1⟩
      have hA1 := hA.below hb1
      have hb1' : Below wr.heap.size wr w1 := ((Below.refl _ _).alloc (Nat.le_refl _) _).trans (hb1.mono (by simp))
      have hA2 := hA1.alloc (.cells (RingC.cells ⟨seq, ver, index, count, n0.toNat, n1.toNat, gone, key, value⟩) 33)
      have hI2 := Blk.new_ w1 (RingC.cells ⟨seq, ver, index, count, n0.toNat, n1.toNat, gone, key, value⟩) 33
      have hb2 : Below wr.heap.size wr (w1.alloc (.cells (RingC.cells ⟨seq, ver, index, count, n0.toNat, n1.toNat, gone, key, value⟩) 33)) := hb1'.alloc hb1'.size _
      go_wp2_with fail
      obtain ⟨V, hV⟩ : ∃ V, w1.alloc (.cells (RingC.cells ⟨seq, ver, index, count, n0.toNat, n1.toNat, gone, key, value⟩) 33) = V := ⟨_, rfl⟩
      change Code.wp _ _ _ _ (w1.alloc (.cells (RingC.cells ⟨seq, ver, index, count, n0.toNat, n1.toNat, gone, key, value⟩) 33))
      have hne : wr.heap.size < w1.heap.size := hA1.lt
      rw [hV] at hA2 hI2 hb2 ⊢
      clear hV hA hA1 hb1 hb1'
      have s0 : V.cell? ⟨wr.heap.size, 0, none⟩ = some (.int .u64 a0) := hA2.cell 0
      have s1 : V.cell? ⟨wr.heap.size, 1, none⟩ = some (.int .u64 a1) := hA2.cell 1
      have s2 : V.cell? ⟨wr.heap.size, 2, none⟩ = some (.bool settled) := hA2.cell 2
      have s3 : V.cell? ⟨w1.heap.size, 0, none⟩ = some (.int .u64 seq) := hI2.cell 0
      have s4 : V.cell? ⟨w1.heap.size, 1, none⟩ = some (.int .u64 ver) := hI2.cell 1
      have s5 : V.cell? ⟨w1.heap.size, 2, none⟩ = some (.int .i64 index) := hI2.cell 2
      have s6 : V.cell? ⟨w1.heap.size, 3, none⟩ = some (.int .i64 count) := hI2.cell 3
      have s7 : V.cell? ⟨w1.heap.size, 4, none⟩ = some (.complex .f64 n0.toNat n1.toNat) := hI2.cell 4
      have s8 : V.cell? ⟨w1.heap.size, 5, none⟩ = some (.bool gone) := hI2.cell 5
      have s9 : V.cell? ⟨w1.heap.size, 6, none⟩ = some (.string key) := hI2.cell 6
      have s10 : V.cell? ⟨w1.heap.size, 7, none⟩ = some (.string value) := hI2.cell 7
      have hrowV : V.ownsRow w.heap.size 35 11 v k ((List.range k).flatMap fun j => ((ps j).fd).cells) := own_below HRW.out hb2
      have HRV := Lib.hid hrowV
      have hvb : ∀ g, v.ownBlock = some g → g < wr.heap.size := fun g hg => (own_lt HRW.out g hg).2
      have ag : v.ownBlock ≠ some wr.heap.size := fun e => by have := hvb _ e; omega
      have ak : v.ownBlock ≠ some w1.heap.size := fun e => by have := hvb _ e; omega
      have hbV := hb2.size
      have hiv := hI2.lt
      have HB2 := Lib.hid hb2
      obtain ⟨sz, hsze⟩ : ∃ z, RingM.size key.size value.size = z := ⟨_, rfl⟩
      have HZ := Lib.hid (fun w => HS.out key value w hsz.1 hsz.2)
      rw [hsze] at HZ
      have HSZ := Lib.hid hsze
      obtain ⟨i0, hi0, hz0, hz1, hz2⟩ := info_parts info_found
      clear hA2 hI2 hb2 hsze hrowV hvb
      go_region_held3 (fun v' => v'.cell? ⟨wr.heap.size, 0, none⟩ = some (.int .u64 a0) ∧ v'.cell? ⟨wr.heap.size, 1, none⟩ = some (.int .u64 a1) ∧ v'.cell? ⟨wr.heap.size, 2, none⟩ = some (.bool settled) ∧ v'.cell? ⟨w1.heap.size, 0, none⟩ = some (.int .u64 seq) ∧ v'.cell? ⟨w1.heap.size, 1, none⟩ = some (.int .u64 ver) ∧ v'.cell? ⟨w1.heap.size, 2, none⟩ = some (.int .i64 index) ∧ v'.cell? ⟨w1.heap.size, 3, none⟩ = some (.int .i64 count) ∧ v'.cell? ⟨w1.heap.size, 4, none⟩ = some (.complex .f64 n0.toNat n1.toNat) ∧ v'.cell? ⟨w1.heap.size, 5, none⟩ = some (.bool gone) ∧ v'.cell? ⟨w1.heap.size, 6, none⟩ = some (.string key) ∧ v'.cell? ⟨w1.heap.size, 7, none⟩ = some (.string value))
        (first
          | go_keep
          | (go_split_ands
             refine ⟨?_, ?_, ?_, ?_, ?_, ?_, ?_, ?_, ?_, ?_, ?_⟩
             · (rw [hgrow.cell_far _ (by simp; omega) (Ne.symm ag)]; assumption)
             · (rw [hgrow.cell_far _ (by simp; omega) (Ne.symm ag)]; assumption)
             · (rw [hgrow.cell_far _ (by simp; omega) (Ne.symm ag)]; assumption)
             · (rw [hgrow.cell_far _ (by simp; omega) (Ne.symm ak)]; assumption)
             · (rw [hgrow.cell_far _ (by simp; omega) (Ne.symm ak)]; assumption)
             · (rw [hgrow.cell_far _ (by simp; omega) (Ne.symm ak)]; assumption)
             · (rw [hgrow.cell_far _ (by simp; omega) (Ne.symm ak)]; assumption)
             · (rw [hgrow.cell_far _ (by simp; omega) (Ne.symm ak)]; assumption)
             · (rw [hgrow.cell_far _ (by simp; omega) (Ne.symm ak)]; assumption)
             · (rw [hgrow.cell_far _ (by simp; omega) (Ne.symm ak)]; assumption)
             · (rw [hgrow.cell_far _ (by simp; omega) (Ne.symm ak)]; assumption)))
        (first
          | (go_at_call 12; refine (at_calls a0 a1 _).mono ?_; rintro e w' ⟨rfl, rfl⟩)
          | (go_at_call 8; refine (HZ.out _).mono ?_; rintro e w' ⟨rfl, rfl⟩)
          | (refine step_append_lies _ (by rfl) _ _ _ (by rfl) w.heap.size 35 i0 _ 11 120 Try.underlying28 hi0 hz0 hz1 hz2 rfl (by omega) v k _ (by rfl) ((HRV.out.alloc _).drew)
              ⟨V.heap.size, 0, none⟩ 1 1 [.complex .f64 a0.toNat a1.toNat, .int .i64 sz, .bool settled, .int .u64 seq, .int .u64 ver, .int .i64 index, .int .i64 count, .complex .f64 n0.toNat n1.toNat, .bool gone, .string key, .string value] (by rfl) (by rfl) (World.news_of_block (cs := #[.complex .f64 a0.toNat a1.toNat, .int .i64 sz, .bool settled, .int .u64 seq, .int .u64 ver, .int .i64 index, .int .i64 count, .complex .f64 n0.toNat n1.toNat, .bool gone, .string key, .string value]) (t := 35) (fr := (0, 0)) (heap_alloc_new V _)) (by simp [Value.oneCell'])
              (by omega) (by unfold maxLen; omega) (by omega) (by simp; omega) (V.heap.size + 1) (by simp) ?_; intro gg cap w3 hown3 hgrow hat hlt'))
      have HW3 : Hid (Below w.heap.size w w3) := Lib.hid ((((HBL.out.trans (HB2.out.mono HBL.out.size)).alloc (by omega) _).drew).grown hgrow (by simp; omega) (fun g hg => (own_lt HRW.out g hg).1))
      have HR3 : Hid (Fds w3 w.heap.size (.slice (some ⟨gg, 0, none⟩) (k + 1) cap) (k + 1) (fun j => (ps j).fd)) := Lib.hid (by
        unfold Fds
        rw [List.range_succ, List.flatMap_append, List.flatMap_singleton]
        dsimp only
        rw [HPK.out]
        have e : RingK.Fnd.cells (Pr.fd ⟨a0, a1, settled, seq, ver, index, count, n0, n1, gone, key, value⟩) = [.complex .f64 a0.toNat a1.toNat, .int .i64 sz, .bool settled, .int .u64 seq, .int .u64 ver, .int .i64 index, .int .i64 count, .complex .f64 n0.toNat n1.toNat, .bool gone, .string key, .string value] := by
          unfold RingK.Fnd.cells Pr.fd Pr.it
          dsimp only
          rw [HSZ.out]
        rw [e]
        exact hown3)
      clear hown3 hgrow hat hlt'
      go_wp2_with fail
      go_roundw
      case rel => exact ⟨k + 1, _, by omega, by go_num, rfl, HR3.out, HW3.out⟩
      case measure => simp [intOf]; omega
    · obtain rfl : k = n := by omega
      have HRW := Lib.hid hrow
      have HBL := Lib.hid hbel
      clear hrow hbel
      go_wp2_with fail
      go_ret
      exact ⟨v, rfl, HRW.out, HBL.out⟩
end Go.Proofs.Ythmcakaboebagaa.RingF
