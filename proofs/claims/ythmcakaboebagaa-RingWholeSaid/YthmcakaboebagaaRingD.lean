/- The contract of layer 7's Link (the project's). -/
import Derived.Test.YthmcakaboebagaaRingE
import Derived.Test.YthmcakaboebagaaRw
import Derived.StillTailTactics
import Derived.IntWalk
namespace Go.Proofs.Ythmcakaboebagaa.RingD
set_option linter.unusedVariables false
set_option linter.unusedSimpArgs false
open Go.RowKit
open Go.Proofs.Ythmcakaboebagaa.Byte Go.Proofs.Ythmcakaboebagaa.RingM Go.Proofs.Ythmcakaboebagaa.RingN Go.Proofs.Ythmcakaboebagaa.RingC Go.Proofs.Ythmcakaboebagaa.RingE Go.Proofs.Ythmcakaboebagaa.Rw Go.Proofs.Ythmcakaboebagaa.Own

attribute [local go_sem] Own.run_store_complex
/-- A pair. -/
structure Pa where
  key : ByteArray
  value : ByteArray
  gone : Bool
def Pa.cells (p : Pa) : List Value := [.string p.key, .string p.value, .bool p.gone]
/-- The item number i of a ring. -/
def li (seq : Int) (n : Nat) (ps : Nat → Pa) (vs : Nat → Int) (zs : Nat → Nat × Nat) (i : Nat) : It := ⟨seq, vs i, i, n, (zs ((i + 1) % n)).1, (zs ((i + 1) % n)).2, (ps i).gone, (ps i).key, (ps i).value⟩
def Io (w : World) (base g n : Nat) (f : Nat → It) : Prop := Ow w base g n 8 (fun j => (RingC.cells (f j)).toList)
theorem Io.set_ {w : World} {base g n k : Nat} {F : Nat → It} (h : Io w base g n (fun j => if j < k then F j else none_)) (hk : k < n) : Io (w.setCells g (k * 8) (RingC.cells (F k)).toList) base g n (fun j => if j < k + 1 then F j else none_) :=
  (Ow.put h k hk _ rfl (fun j => rfl)).congr (fun j hj => by
    dsimp only
    by_cases e : j = k
    · subst e
      rw [if_pos rfl, if_pos (by omega)]
    · rw [if_neg e]
      by_cases e2 : j < k
      · rw [if_pos e2, if_pos (by omega)]
      · rw [if_neg e2, if_neg (by omega)])
theorem info_items : (Try.prog.info? 33).map (fun i => (i.zero, i.size, i.bytes)) = some (some (.agg RingC.zer), 8, 88) := by kernel_rfl
theorem info_pair : (Try.prog.info? 47).map (·.size) = some 3 := by kernel_rfl
def LinkE (n : Nat) (f : Nat → It) (w : World) (e : Ending) (w' : World) : Prop :=
  ((∃ g, e = .returned (.tuple #[.slice (some ⟨g, 0, none⟩) n n, .int .i64 0]) ∧ Io w' w.heap.size g n f ∧ ∀ i, i < n → may (f i) = true) ∨
    (e = .returned (.tuple #[.slice none 0 0, .int .i64 1]) ∧ ∃ i, i < n ∧ may (f i) = false)) ∧ Below w.heap.size w w'
set_option maxRecDepth 100000 in
set_option maxHeartbeats 1000000 in
theorem link_no (A B C : Option Addr) (seq : Int) (n c m cm q cq : Nat) (w : World) (h : n = 0 ∨ (0 < n ∧ m ≠ n) ∨ (0 < n ∧ m = n ∧ q ≠ n)) :
    Calls Try.prog 13 #[.int .u64 seq, .slice A n c, .slice B m cm, .slice C q cq] w fun e w' => e = .returned (.tuple #[.slice none 0 0, .int .i64 1]) ∧ w = w' := by
  rcases h with rfl | ⟨h0, h1⟩ | ⟨h0, rfl, h2⟩
  · go_enter Try.func13, Try.ntmps13
    go_wp2
    go_ret2
    exact ⟨rfl, rfl⟩
  · have d0 : ((n : Int) == 0) = false := by rw [beq_eq_false_iff_ne]; omega
    have d1 : ((m : Int) != n) = true := by rw [bne_iff_ne]; omega
    go_enter Try.func13, Try.ntmps13
    go_wp2
    go_ret2
    exact ⟨rfl, rfl⟩
  · have d0 : ((m : Int) == 0) = false := by rw [beq_eq_false_iff_ne]; omega
    have d1 : ((m : Int) != m) = false := by simp
    have d2 : ((q : Int) != m) = true := by rw [bne_iff_ne]; omega
    go_enter Try.func13, Try.ntmps13
    go_wp2
    go_ret2
    exact ⟨rfl, rfl⟩
set_option maxRecDepth 100000 in
set_option maxHeartbeats 4000000 in
theorem link_calls (A B C : Option Addr) (seq : Int) (n c cm cq : Nat) (ps : Nat → Pa) (vs : Nat → Int) (zs : Nat → Nat × Nat) (w : World) (h0 : 0 < n) (hn : n ≤ 100000)
    (hp : Rs w A n 3 (fun j => (ps j).cells)) (hv : Vs w B n (fun j => .int .u64 (vs j))) (hz : Vs w C n (fun j => .complex .f64 (zs j).1 (zs j).2)) (hk : ∀ j, j < n → (ps j).key.size ≤ maxLen ∧ (ps j).value.size ≤ maxLen) :
    Calls Try.prog 13 #[.int .u64 seq, .slice A n c, .slice B n cm, .slice C n cq] w (LinkE n (li seq n ps vs zs) w) := by
  obtain ⟨i0, hi, hz0, hz1, hz2⟩ := info_parts info_items
  have d0 : ((n : Int) == 0) = false := by rw [beq_eq_false_iff_ne]; omega
  have d1 : ((n : Int) != n) = false := by simp
  have HP := Lib.hid hp
  have HV := Lib.hid hv
  have HZ := Lib.hid hz
  have HK := Lib.hid hk
  clear hp hv hz hk
  obtain ⟨F, hF⟩ : ∃ F, li seq n ps vs zs = F := ⟨_, rfl⟩
  have HF := Lib.hid hF
  rw [hF]
  clear hF
  go_enter Try.func13, Try.ntmps13
  go_wp2_with ((with_reducible refine pick (some 32) ?_); refine wpList_make_full w rfl _ _ 42 rfl w.heap.size 33 i0 _ 8 Try.underlying42 hi hz0 hz1 .i64 .i64 n n n rfl rfl rfl rfl (by rw [hz2]; omega) (by unfold maxLen; omega) (Nat.le_refl _) ?_; intro w1 hown1 hg1)
  have HO1 : Hid (Io w1 w.heap.size w.heap.size n (fun _ => none_)) := Lib.hid (Ow.made (z := .agg RingC.zer) hown1 rfl (by omega))
  have HB1 : Hid (Below w.heap.size w w1) := Lib.hid ((Below.refl _ _).grown hg1 (Nat.le_refl _) (fun k e => by cases e))
  clear hown1 hg1 hi hz0 hz1 hz2
  have dn := d1
  go_loopw [35] (fun i wr => ∃ k : Nat, k ≤ n ∧ i = .int .i64 k ∧ Io wr w.heap.size w.heap.size n (fun j => if j < k then F j else none_) ∧ Below w.heap.size w wr ∧ Hid (∀ j, j < k → may (F j) = true)) (fun i _ => n - (intOf i).toNat)
  case atStart => exact ⟨0, Nat.zero_le _, rfl, HO1.out.congr (fun k hk => by simp), HB1.out, Lib.hid (fun j hj => by omega)⟩
  case round =>
    obtain ⟨k, hk, rfl, hio, hbel, HM⟩ := hrel
    have HIO := Lib.hid hio
    have HBL := Lib.hid hbel
    have hbs := hbel.size
    clear hio
    by_cases hlt : k < n
    · obtain ⟨b, o, rfl, hbl, hc⟩ := (HP.out.below hbel) k hlt
      obtain ⟨bv, ov, rfl, hvl, hcv⟩ := (HV.out.below hbel) k hlt
      have hr : (k + 1) % n < n := Nat.mod_lt _ h0
      obtain ⟨bz, oz, rfl, hzl, hcz⟩ := (HZ.out.below hbel) _ hr
      have HFK : Hid (F k = ⟨seq, vs k, k, n, (zs ((k + 1) % n)).1, (zs ((k + 1) % n)).2, (ps k).gone, (ps k).key, (ps k).value⟩) := Lib.hid (by rw [← HF.out]; rfl)
      have hsz := HK.out k hlt
      obtain ⟨p, hpk⟩ : ∃ p, ps k = p := ⟨_, rfl⟩
      obtain ⟨ver, hver⟩ : ∃ ver, vs k = ver := ⟨_, rfl⟩
      have hmod : ((k : Int) + 1) % (n : Int) = (((k + 1) % n : Nat) : Int) := by rw [show ((k : Int) + 1) = ((k + 1 : Nat) : Int) by omega]; rfl
      obtain ⟨r, hre⟩ : ∃ r, (k + 1) % n = r := ⟨_, rfl⟩
      rw [hre] at hcz hr hmod HFK
      obtain ⟨⟨zr, zi⟩, hzr⟩ : ∃ z, zs r = z := ⟨_, rfl⟩
      dsimp only at hc hcv hcz
      rw [hpk] at hc hsz HFK
      rw [hver] at hcv HFK
      rw [hzr] at hcz HFK
      obtain ⟨key, value, gone⟩ := p
      dsimp only at hcz HFK hsz
      have HC : Hid (wr.rangeAt b (o + k * 3) [.string key, .string value, .bool gone]) := Lib.hid hc
      have HMOD := Lib.hid hmod
      clear hc hpk hver hre hzr hbel hmod
      go_wp2_with ((with_reducible refine pick (some 39) ?_); refine wpList_load_mid rfl 47 _ rfl b (o + k * 3) rfl [.string key, .string value, .bool gone] _ HC.out Try.underlying47 rfl info_pair ?_)
      obtain ⟨W, hW⟩ : ∃ W, wr.alloc (.cells #[.string key, .string value, .bool gone] 47) = W := ⟨_, rfl⟩
      have hA : Blk W wr.heap.size #[.string key, .string value, .bool gone] 47 := by rw [← hW]; exact Blk.new_ _ _ _
      have hWB : Below wr.heap.size wr W := by rw [← hW]; exact (Below.refl _ _).alloc (Nat.le_refl _) _
      rw [hW]
      have HBW := Lib.hid (keeps HBL.out hWB)
      have HIW := Lib.hid (HIO.out.below hWB)
      have cv := (hWB.cell (p := ⟨bv, ov + k, none⟩) hvl).trans hcv
      have cz := (hWB.cell (p := ⟨bz, oz + r, none⟩) hzl).trans hcz
      have a0 := hA.cell 0
      have a1 := hA.cell 1
      have a2 := hA.cell 2
      have hkn : (k : Int) < n := by omega
      have hrn : (r : Int) < n := by omega
      have hr0 : (0 : Int) ≤ r := by omega
      have N := Lib.hid (fun w => next_calls (k : Int) (n : Int) w (by omega) (by omega) (by omega) (by omega))
      rw [HMOD.out] at N
      clear hW hWB hA hcv hcz
      go_still_tail 25, (by kernel_rfl)
      still_call ((N.out _).mono fun _ _ h => ⟨h.1, h.2.symm⟩)
      repeat still_step
      refine wpStill_nil ?_
      change wpList _ _ _ _ _ W.drew
      clear cv cz a0 a1 a2
      have hio2 := Io.set_ (HIW.out.below (below_drewN (Below.refl _ _) 1)) hlt
      rw [HFK.out] at hio2
      have HIW2 : Hid (Io (W.drew.setCells w.heap.size (k * 8) [.int .u64 seq, .int .u64 ver, .int .i64 k, .int .i64 n, .complex .f64 zr zi, .bool gone, .string key, .string value]) w.heap.size w.heap.size n (fun j => if j < k + 1 then F j else none_)) := Lib.hid hio2
      clear hio2
      have HBW2 : Hid (Below w.heap.size w (W.drew.setCells w.heap.size (k * 8) [.int .u64 seq, .int .u64 ver, .int .i64 k, .int .i64 n, .complex .f64 zr zi, .bool gone, .string key, .string value])) := Lib.hid (HBW.out.drew.grown (grown_setCells _ _ _ _) HBW.out.size (by intro k hk; injection hk with hk; omega))
      have HRM : Hid (W.drew.there w.heap.size (k * 8) 8) := Lib.hid ((World.there_drew _ _ _ _).2 (HIW.out.room k hlt))
      refine wpList_store_mid rfl 33 _ _ rfl w.heap.size (k * 8) #[.int .u64 seq, .int .u64 ver, .int .i64 k, .int .i64 n, .complex .f64 zr zi, .bool gone, .string key, .string value] rfl rfl HRM.out info_item (RingC.cells_one ⟨seq, ver, k, n, zr, zi, gone, key, value⟩) ?_
      have hrm : (W.drew.setCells w.heap.size (k * 8) [.int .u64 seq, .int .u64 ver, .int .i64 k, .int .i64 n, .complex .f64 zr zi, .bool gone, .string key, .string value]).rangeAt w.heap.size (k * 8) [.int .u64 seq, .int .u64 ver, .int .i64 k, .int .i64 n, .complex .f64 zr zi, .bool gone, .string key, .string value] := World.rangeAt_setCells_same _ _ _ _ HRM.out
      have HRI := Lib.hid hrm
      have HMM := Lib.hid (fun w => may_calls ⟨seq, ver, k, n, zr, zi, gone, key, value⟩ w hsz.1 hsz.2)
      rw [← HFK.out] at HMM
      clear hrm HRM
      obtain ⟨V, hV⟩ : ∃ V, W.drew.setCells w.heap.size (k * 8) [.int .u64 seq, .int .u64 ver, .int .i64 k, .int .i64 n, .complex .f64 zr zi, .bool gone, .string key, .string value] = V := ⟨_, rfl⟩
      rw [hV] at HRI HIW2 HBW2
      change wpList _ _ _ _ _ (W.drew.setCells w.heap.size (k * 8) [.int .u64 seq, .int .u64 ver, .int .i64 k, .int .i64 n, .complex .f64 zr zi, .bool gone, .string key, .string value])
      rw [hV]
      clear hV HIW HBW HIO HBL
      have hvs := HBW2.out.size
      cases hm : may (F k) with
      | true =>
        rw [hm] at HMM
        have HM2 := Lib.hid hm
        rw [HFK.out] at HMM
        clear hm
        go_wp2_with ((with_reducible refine pick (some 68) ?_); refine wpList_load_mid rfl 33 _ rfl w.heap.size (k * 8) rfl [.int .u64 seq, .int .u64 ver, .int .i64 k, .int .i64 n, .complex .f64 zr zi, .bool gone, .string key, .string value] _ HRI.out Try.underlying33 rfl info_item ?_)
        refine (HMM.out _).mono ?_
        rintro e w3 ⟨rfl, hb3⟩
        have HIO3 := Lib.hid (HIW2.out.below hb3)
        have HBL3 := Lib.hid (keeps HBW2.out hb3)
        clear hb3
        go_wp2_with fail
        go_roundw
        case rel =>
          refine ⟨k + 1, by omega, by go_num, HIO3.out, HBL3.out, Lib.hid (fun j hj => ?_)⟩
          rcases Nat.lt_or_ge j k with h | h
          · exact HM.out j h
          · obtain rfl : j = k := by omega
            exact HM2.out
        case measure => simp [intOf]; omega
      | false =>
        rw [hm] at HMM
        have HM2 := Lib.hid hm
        rw [HFK.out] at HMM
        clear hm
        go_wp2_with ((with_reducible refine pick (some 68) ?_); refine wpList_load_mid rfl 33 _ rfl w.heap.size (k * 8) rfl [.int .u64 seq, .int .u64 ver, .int .i64 k, .int .i64 n, .complex .f64 zr zi, .bool gone, .string key, .string value] _ HRI.out Try.underlying33 rfl info_item ?_)
        refine (HMM.out _).mono ?_
        rintro e w3 ⟨rfl, hb3⟩
        have HIO3 := Lib.hid (HIW2.out.below hb3)
        have HBL3 := Lib.hid (keeps HBW2.out hb3)
        clear hb3
        go_wp2_with fail
        go_ret2
        exact And.intro (Or.inr ⟨rfl, k, hlt, HM2.out⟩) HBL3.out
    · obtain rfl : k = n := by omega
      have HIO2 : Hid (Io wr w.heap.size w.heap.size k F) := Lib.hid (Ow.congr HIO.out (fun j hj => by dsimp only; rw [if_pos hj]))
      clear hbel
      go_wp2_with fail
      go_ret2
      exact And.intro (Or.inl ⟨w.heap.size, rfl, HIO2.out, HM.out⟩) HBL.out
end Go.Proofs.Ythmcakaboebagaa.RingD
