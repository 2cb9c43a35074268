/- The walk of layer 7's law RingLinks. -/
import Derived.Test.YthmcakaboebagaaRingT
import Derived.Test.YthmcakaboebagaaRingQ
import Derived.Test.YthmcakaboebagaaRingR
import Derived.Deep.AppendLies
import Derived.Deep.RegionHeld3
import Derived.Deep.QuietTactic
import Derived.BigQuiet
namespace Go.Proofs.Ythmcakaboebagaa.RingLn
set_option linter.unusedVariables false
set_option linter.unusedSimpArgs false
open Go.RowKit
open Go.Proofs.Ythmcakaboebagaa.Byte Go.Proofs.Ythmcakaboebagaa.PlaceM Go.Proofs.Ythmcakaboebagaa.PlaceV Go.Proofs.Ythmcakaboebagaa.PlaceG Go.Proofs.Ythmcakaboebagaa.RingM Go.Proofs.Ythmcakaboebagaa.RingN Go.Proofs.Ythmcakaboebagaa.RingC Go.Proofs.Ythmcakaboebagaa.RingE Go.Proofs.Ythmcakaboebagaa.RingD Go.Proofs.Ythmcakaboebagaa.RingT Go.Proofs.Ythmcakaboebagaa.RingQ Go.Proofs.Ythmcakaboebagaa.RingR Go.Proofs.Ythmcakaboebagaa.Rw Go.Proofs.Ythmcakaboebagaa.Own

attribute [local go_sem] Own.run_store_complex
theorem info_cx : (Try.prog.info? 31).map (fun i => (i.zero, i.size, i.bytes)) = some (some (.complex .f64 0 0), 1, 16) := by kernel_rfl
theorem info_2 : (Try.prog.info? 40).map (·.size) = some 2 := by kernel_rfl
/-- The places of some bits, the first k. -/
def pl (ps : Nat → Int × Int) (k : Nat) : List Value := (List.range k).map (fun j => .complex .f64 (ps j).1.toNat (ps j).2.toNat)
theorem pl_succ (ps : Nat → Int × Int) (k : Nat) : pl ps (k + 1) = pl ps k ++ [.complex .f64 (ps k).1.toNat (ps k).2.toNat] := by unfold pl; rw [List.range_succ, List.map_append]; rfl
theorem own_below {w w' : World} {base n size : Nat} {e : TypeId} {v : Value} {xs : List Value} (h : w.ownsRow base e size v n xs) (hb : Below w.heap.size w w') : w'.ownsRow base e size v n xs :=
  h.kept (row := none) ⟨hb.os, hb.tape, hb.output, hb.size, fun k hk _ => hb.block k hk⟩ (by
    cases hv : v.ownBlock with
    | none => exact .inl rfl
    | some g => exact .inr (by simp))
theorem blk2 (w : World) (x y : Array Value) (t u : TypeId) : Blk ((w.alloc (.cells x t)).alloc (.cells y u)) (w.heap.size + 1) y u ∧ Below w.heap.size w ((w.alloc (.cells x t)).alloc (.cells y u)) := by
  refine ⟨?_, ((Below.refl _ _).alloc (Nat.le_refl _) _).alloc (by simp) _⟩
  have := Blk.new_ (w.alloc (.cells x t)) y u
  simpa using this
set_option maxRecDepth 100000 in
set_option maxHeartbeats 4000000 in
theorem links_law (A B D : Option Addr) (seq : Int) (n c m cm q cq : Nat) (ps : Nat → Pa) (vs : Nat → Int) (bs : Nat → Int × Int) (w : World)
    (hp : Rs w A n 3 (fun j => (ps j).cells)) (hv : Vs w B m (fun j => .int .u64 (vs j))) (hz : Rs w D q 2 (fun j => [.int .u64 (bs j).1, .int .u64 (bs j).2])) (hk : ∀ j, j < n → (ps j).key.size ≤ maxLen ∧ (ps j).value.size ≤ maxLen)
    (hn : n ≤ maxLen) (hm : m ≤ maxLen) (hq : q * 16 ≤ 140737488351232) :
    Calls Try.prog 5 #[.int .u64 seq, .slice A n c, .slice B m cm, .slice D q cq] w fun e w' => e = .returned (.bool true) ∧ Below w.heap.size w w' := by
  unfold maxLen at hn hm
  have X := Lib.hid fixed_calls
  by_cases hbig : 300 < n
  · have d : decide (300 < (n : Int)) = true := by simp; omega
    go_enter Try.func5, Try.ntmps5
    go_wp2_with (go_at_call 7; refine (X.out _).mono ?_; rintro e w' ⟨rfl, hbel⟩)
    go_ret
    exact ⟨rfl, hbel⟩
  have d : decide (300 < (n : Int)) = false := by simp; omega
  obtain ⟨i0, hi, hz0, hz1, hz2⟩ := info_parts info_cx
  have HP := Lib.hid hp
  have HV := Lib.hid hv
  have HZ := Lib.hid hz
  have HK := Lib.hid hk
  clear hp hv hz hk
  go_enter Try.func5, Try.ntmps5
  go_wp2_with fail
  go_loopw [9, 23] (fun u i wr => ∃ (k : Nat) (v : Value), k ≤ q ∧ i = .int .i64 k ∧ v = u ∧ wr.ownsRow w.heap.size 31 1 v k (pl bs k) ∧ Below w.heap.size w wr) (fun _ i _ => q - (intOf i).toNat)
  case atStart => exact ⟨0, _, Nat.zero_le _, rfl, rfl, World.ownsRow_nil _ _ _ _, Below.refl _ _⟩
  case round =>
    obtain ⟨k, v, hk, rfl, rfl, hrow, hbel⟩ := hrel
    have HRW := Lib.hid hrow
    have HBL := Lib.hid hbel
    have hbs := hbel.size
    clear hrow
    by_cases hlt : k < q
    · obtain ⟨b, o, rfl, hbl, hc⟩ := (HZ.out.below hbel) k hlt
      have HPS := Lib.hid (pl_succ bs k)
      obtain ⟨⟨x, y⟩, hxy⟩ : ∃ p, bs k = p := ⟨_, rfl⟩
      dsimp only at hc
      rw [hxy] at hc HPS
      dsimp only at hc HPS
      have HC : Hid (wr.rangeAt b (o + k * 2) [.int .u64 x, .int .u64 y]) := Lib.hid hc
      clear hc hxy hbel
      go_wp2_with (first
        | ((with_reducible refine pick (some 26) ?_); refine wpList_load_mid rfl 40 _ rfl b (o + k * 2) rfl [.int .u64 x, .int .u64 y] _ HC.out Try.underlying40 rfl info_2 ?_)
        | (go_at_call 12; refine (at_calls x y _).mono ?_; rintro e w' ⟨rfl, rfl⟩)
        | ((with_reducible refine pick (some 34) ?_); refine wpList_append_lies _ rfl _ _ _ rfl w.heap.size 31 i0 _ 1 16 Try.underlying39 hi hz0 hz1 hz2 rfl (by omega) v k _ rfl ((HRW.out.alloc _).alloc _) ⟨wr.heap.size + 1, 0, none⟩ 1 1 [.complex .f64 x.toNat y.toNat] rfl rfl (World.news_of_block (blk2 wr #[.int .u64 x, .int .u64 y] #[.complex .f64 x.toNat y.toNat] 40 31).1) (by simp [Value.oneCell']) (by omega) (by unfold maxLen; omega) (by omega) (by simp; omega) _ rfl ?_; intro gg cap w3 hown3 hgrow hat3 hlt3; have hb3 : Below w.heap.size w w3 := (keeps HBL.out (blk2 wr #[.int .u64 x, .int .u64 y] #[.complex .f64 x.toNat y.toNat] 40 31).2).grown hgrow (by simp; omega) (fun g hg => (HRW.out.lt g hg).1)))
      rw [← HPS.out] at hown3
      have HO3 := Lib.hid hown3
      have HB3 := Lib.hid hb3
      clear hown3 hb3 hgrow hat3 hlt3
      go_roundw
      case rel => exact ⟨k + 1, _, by omega, by go_num, rfl, HO3.out, HB3.out⟩
      case measure => simp [intOf]; omega
    · obtain rfl : k = q := by omega
      clear hbel hz0 hz1 hz2 hi
      have HVS : Hid (∃ D' cp, v = .slice D' k cp ∧ Vs wr D' k (fun j => .complex .f64 (bs j).1.toNat (bs j).2.toNat)) := Lib.hid (by
        have hrow := HRW.out
        rcases hrow.2 with ⟨h1, h0⟩ | ⟨g, cap, cur, h1, r⟩
        · subst h0
          exact ⟨none, 0, h1, fun j hj => by omega⟩
        · refine ⟨_, cap, h1, fun j hj => ⟨g, 0, rfl, (hrow.lt g (by rw [h1]; rfl)).2, ?_⟩⟩
          have := hrow.cells (g := g) (by rw [h1]; rfl) j (.complex .f64 (bs j).1.toNat (bs j).2.toNat) (by unfold pl; simp [hj])
          rw [Addr.add_mid] at this
          exact this)
      obtain ⟨D', cp, rfl, hvs⟩ := HVS.out
      have HVP := Lib.hid hvs
      clear hvs HVS
      by_cases hlen : n = 0 ∨ (0 < n ∧ m ≠ n) ∨ (0 < n ∧ m = n ∧ k ≠ n)
      · have L := Lib.hid (fun w => link_no A B D' seq n c m cm k cp w hlen)
        rcases hlen with rfl | ⟨h0, h1⟩ | ⟨h0, rfl, h2⟩
        · go_wp2_with fail
          refine (L.out _).mono ?_
          rintro e w' ⟨rfl, rfl⟩
          go_wp2_with fail
          refine wp_loop_rounds 1 ?_
          rw [rounds_succ]
          go_wp2_with (go_at_call 7; refine (X.out _).mono ?_; rintro e w' ⟨rfl, hbel⟩; have HBX := Lib.hid (keeps HBL.out hbel); clear hbel)
          go_ret
          exact ⟨rfl, HBX.out⟩
        · have d0 : decide (0 < (n : Int)) = true := by simp; omega
          have d1 : ((m : Int) == n) = false := by rw [beq_eq_false_iff_ne]; omega
          go_wp2_with fail
          refine (L.out _).mono ?_
          rintro e w' ⟨rfl, rfl⟩
          go_wp2_with fail
          refine wp_loop_rounds 1 ?_
          rw [rounds_succ]
          go_wp2_with (go_at_call 7; refine (X.out _).mono ?_; rintro e w' ⟨rfl, hbel⟩; have HBX := Lib.hid (keeps HBL.out hbel); clear hbel)
          go_ret
          exact ⟨rfl, HBX.out⟩
        · have d0 : decide (0 < (m : Int)) = true := by simp; omega
          have d1 : ((m : Int) == m) = true := by simp
          have d2 : ((k : Int) == m) = false := by rw [beq_eq_false_iff_ne]; omega
          go_wp2_with fail
          refine (L.out _).mono ?_
          rintro e w' ⟨rfl, rfl⟩
          go_wp2_with fail
          refine wp_loop_rounds 1 ?_
          rw [rounds_succ]
          go_wp2_with (go_at_call 7; refine (X.out _).mono ?_; rintro e w' ⟨rfl, hbel⟩; have HBX := Lib.hid (keeps HBL.out hbel); clear hbel)
          go_ret
          exact ⟨rfl, HBX.out⟩
      · have h0 : 0 < n := by omega
        obtain rfl : m = n := by omega
        obtain rfl : k = m := by omega
        clear hlen
        obtain ⟨F, hF⟩ : ∃ F, li seq k ps vs (fun j => ((bs j).1.toNat, (bs j).2.toNat)) = F := ⟨_, rfl⟩
        have L := Lib.hid (link_calls A B D' seq k c cm cp ps vs (fun j => ((bs j).1.toNat, (bs j).2.toNat)) wr h0 (by omega) (HP.out.below HBL.out) (HV.out.below HBL.out) HVP.out HK.out)
        rw [hF] at L
        have HF := Lib.hid hF
        clear hF
        have d0 : decide (0 < (k : Int)) = true := by simp; omega
        have d1 : ((k : Int) == k) = true := by simp
        go_wp2_with fail
        refine L.out.mono ?_
        rintro e w2 ⟨⟨g, rfl, hio, hall⟩ | ⟨rfl, hno⟩, hb2⟩
        · have HIO := Lib.hid hio
          have HALL := Lib.hid hall
          have HB2 := Lib.hid (keeps HBL.out hb2)
          have HVP2 := Lib.hid (HVP.out.below hb2)
          have HOR : Hid (∀ r, r < k → FloatKind.f64.format.order (bs r).1.toNat (bs r).1.toNat = some .eq ∧ FloatKind.f64.format.order (bs r).2.toNat (bs r).2.toNat = some .eq) := Lib.hid (fun r hr => by
            obtain ⟨i, hi, he⟩ : ∃ i, i < k ∧ (i + 1) % k = r := by
              rcases Nat.eq_zero_or_pos r with h | h
              · exact ⟨k - 1, by omega, by rw [show k - 1 + 1 = k by omega, Nat.mod_self, h]⟩
              · exact ⟨r - 1, by omega, by rw [show r - 1 + 1 = r by omega, Nat.mod_eq_of_lt hr]⟩
            have hm := may_yes (hall i hi)
            have h1 := hm.1
            have h2 := hm.2.1
            rw [← HF.out] at h1 h2
            unfold li at h1 h2
            dsimp only at h1 h2
            rw [he] at h1 h2
            exact ⟨same_order (rt_fv h1).1, same_order (rt_fv h2).1⟩)
          clear hio hall hb2
          go_wp2_with fail
          go_loopw [14, 15] (fun ok i wr3 => ∃ j : Nat, j ≤ k ∧ i = .int .i64 j ∧ ok = .bool true ∧ Below w2.heap.size w2 wr3) (fun _ i _ => k - (intOf i).toNat)
          case atStart => exact ⟨0, Nat.zero_le _, rfl, rfl, Below.refl _ _⟩
          case round =>
            obtain ⟨j, hj, rfl, rfl, hbel2⟩ := hrel
            by_cases hlt : j < k
            · have HBW := Lib.hid (keeps HB2.out hbel2)
              have HBJ := Lib.hid hbel2
              obtain ⟨b, o, rfl, hbl, hc⟩ := (HP.out.below HBW.out) j hlt
              obtain ⟨bv, ov, rfl, hvl, hcv⟩ := (HV.out.below HBW.out) j hlt
              have hr : (j + 1) % k < k := Nat.mod_lt _ h0
              obtain ⟨bz, oz, rfl, hzl, hcz⟩ := (HVP2.out.below hbel2) _ hr
              have hFj : F j = ⟨seq, vs j, j, k, (bs ((j + 1) % k)).1.toNat, (bs ((j + 1) % k)).2.toNat, (ps j).gone, (ps j).key, (ps j).value⟩ := by rw [← HF.out]; rfl
              have hsz := HK.out j hlt
              dsimp only at hc hcv hcz
              obtain ⟨⟨key, value, gone⟩, hpk⟩ : ∃ p, ps j = p := ⟨_, rfl⟩
              obtain ⟨ver, hver⟩ : ∃ ver, vs j = ver := ⟨_, rfl⟩
              have e1 : IntKind.i64.wrap ((j : Int) + 1) = (j : Int) + 1 := IntWalk.i64_in _ (by omega)
              have e3 : ((j : Int) + 1).tmod (k : Int) = (((j + 1) % k : Nat) : Int) := by
                rw [Int.tmod_eq_emod_of_nonneg (by omega), show ((j : Int) + 1) = ((j + 1 : Nat) : Int) by omega]
                rfl
              obtain ⟨r, hre⟩ : ∃ r, (j + 1) % k = r := ⟨_, rfl⟩
              rw [hre] at hcz hr e3 hFj
              obtain ⟨zr, hzr⟩ : ∃ z, (bs r).1.toNat = z := ⟨_, rfl⟩
              obtain ⟨zi, hzi⟩ : ∃ z, (bs r).2.toNat = z := ⟨_, rfl⟩
              rw [hpk] at hc hsz hFj
              rw [hver] at hcv hFj
              rw [hzr, hzi] at hcz hFj
              dsimp only at hFj hsz
              have HFJ := Lib.hid hFj
              have p0 : wr.cell? ⟨b, o + j * 3, none⟩ = some (.string key) := hc 0 _ rfl
              have p1 : wr.cell? ⟨b, o + j * 3 + 1, none⟩ = some (.string value) := hc 1 _ rfl
              have p2 : wr.cell? ⟨b, o + j * 3 + 2, none⟩ = some (.bool gone) := hc 2 _ rfl
              have RD : Hid (∀ v, Below wr.heap.size wr v → Below wr.heap.size wr v ∧ v.cell? ⟨bv, ov + j, none⟩ = some (.int .u64 ver) ∧ v.cell? ⟨bz, oz + r, none⟩ = some (.complex .f64 zr zi) ∧ v.cell? ⟨b, o + j * 3, none⟩ = some (.string key) ∧ v.cell? ⟨b, o + j * 3 + 1, none⟩ = some (.string value) ∧ v.cell? ⟨b, o + j * 3 + 2, none⟩ = some (.bool gone)) := Lib.hid fun v hv => ⟨hv, (hv.cell (p := ⟨bv, ov + j, none⟩) hvl).trans hcv, (hv.cell (p := ⟨bz, oz + r, none⟩) hzl).trans hcz, (hv.cell (p := ⟨b, o + j * 3, none⟩) hbl).trans p0, (hv.cell (p := ⟨b, o + j * 3 + 1, none⟩) hbl).trans p1, (hv.cell (p := ⟨b, o + j * 3 + 2, none⟩) hbl).trans p2⟩
              have e4 : IntKind.i64.wrap (r : Int) = (r : Int) := IntWalk.i64_in _ (by omega)
              have nz : ¬ (k : Int) = 0 := by omega
              have nz2 : ((k : Int) == 0) = false := by rw [beq_eq_false_iff_ne]; omega
              have nz3 : ¬ k = 0 := by omega
              have e5 : ((j : Int) + 1) % (k : Int) = (r : Int) := by rw [← e3, Int.tmod_eq_emod_of_nonneg (by omega)]
              have hri : (r : Int) < k := by omega
              have hji : (j : Int) < k := by omega
              have HZR := Lib.hid hzr
              have HZI := Lib.hid hzi
              clear hc hpk hver hre hzr hzi hFj hbel2
              go_wp2_with fail
              refine wp_region_noPanic ?_
              go_region_held3 (fun v => Below wr.heap.size wr v ∧ v.cell? ⟨bv, ov + j, none⟩ = some (.int .u64 ver) ∧ v.cell? ⟨bz, oz + r, none⟩ = some (.complex .f64 zr zi) ∧ v.cell? ⟨b, o + j * 3, none⟩ = some (.string key) ∧ v.cell? ⟨b, o + j * 3 + 1, none⟩ = some (.string value) ∧ v.cell? ⟨b, o + j * 3 + 2, none⟩ = some (.bool gone))
                (first
                  | exact RD.out _ (Below.refl _ _)
                  | exact RD.out _ (by assumption)
                  | exact RD.out _ (Below.drew (by assumption))
                  | exact RD.out _ (Below.drew (Below.refl _ _))
                  | exact RD.out _ (And.left (by assumption))
                  | exact RD.out _ (Below.alloc (And.left (by assumption)) (Below.size (And.left (by assumption))) _)
                  | exact RD.out _ (Below.alloc (Below.refl _ _) (Nat.le_refl _) _)
                  | exact RD.out _ (Below.drew (Below.alloc (Below.refl _ _) (Nat.le_refl _) _)))
                (first
                  | fail)
              refine NoPanic.normal ?_
              clear e1 e3 e4 e5 p0 p1 p2 hcv hcz
              obtain ⟨W3, hW3⟩ : ∃ W3, (wr.alloc (.cells #[.int .u64 seq, .int .u64 ver, .int .i64 j, .int .i64 k, .complex .f64 zr zi, .bool gone, .string key, .string value] 33)).drew = W3 := ⟨_, rfl⟩
              have hA : Blk W3 wr.heap.size #[.int .u64 seq, .int .u64 ver, .int .i64 j, .int .i64 k, .complex .f64 zr zi, .bool gone, .string key, .string value] 33 := by rw [← hW3]; exact (Blk.new_ wr _ _).drew
              have hWB : Below wr.heap.size wr W3 := by rw [← hW3]; exact ((Below.refl _ _).alloc (Nat.le_refl _) _).drew
              rw [hW3]
              have HBA := Lib.hid (keeps HBJ.out hWB)
              have HA := Lib.hid hA
              have y0 : W3.cell? ⟨wr.heap.size, 0, none⟩ = some (.int .u64 seq) := hA.cell 0
              have y1 : W3.cell? ⟨wr.heap.size, 1, none⟩ = some (.int .u64 ver) := hA.cell 1
              have y2 : W3.cell? ⟨wr.heap.size, 2, none⟩ = some (.int .i64 j) := hA.cell 2
              have y3 : W3.cell? ⟨wr.heap.size, 3, none⟩ = some (.int .i64 k) := hA.cell 3
              have y4 : W3.cell? ⟨wr.heap.size, 4, none⟩ = some (.complex .f64 zr zi) := hA.cell 4
              have y5 : W3.cell? ⟨wr.heap.size, 5, none⟩ = some (.bool gone) := hA.cell 5
              have y6 : W3.cell? ⟨wr.heap.size, 6, none⟩ = some (.string key) := hA.cell 6
              have y7 : W3.cell? ⟨wr.heap.size, 7, none⟩ = some (.string value) := hA.cell 7
              have M : Hid (∀ w, Calls Try.prog 14 #[.agg #[.int .u64 seq, .int .u64 ver, .int .i64 j, .int .i64 k, .complex .f64 zr zi, .bool gone, .string key, .string value]] w fun e w' => e = .returned (.bool (may (F j))) ∧ Below w.heap.size w w') := Lib.hid (fun w => by rw [HFJ.out]; exact refmay_calls ⟨seq, ver, j, k, zr, zi, gone, key, value⟩ w hsz.1 hsz.2)
              clear hW3 hWB hA
              rw [HALL.out j hlt] at M
              go_wp2_with fail
              refine (M.out _).mono ?_
              rintro e w5 ⟨rfl, hb5⟩
              have hA5 := HA.out.below hb5
              have HB5 := Lib.hid (keeps HBA.out hb5)
              have hio5 := (HIO.out.below HB5.out).cells j hlt
              rw [HFJ.out] at hio5
              clear y0 y1 y2 y3 y4 y5 y6 y7
              have y0 : w5.cell? ⟨wr.heap.size, 0, none⟩ = some (.int .u64 seq) := hA5.cell 0
              have y1 : w5.cell? ⟨wr.heap.size, 1, none⟩ = some (.int .u64 ver) := hA5.cell 1
              have y2 : w5.cell? ⟨wr.heap.size, 2, none⟩ = some (.int .i64 j) := hA5.cell 2
              have y3 : w5.cell? ⟨wr.heap.size, 3, none⟩ = some (.int .i64 k) := hA5.cell 3
              have y4 : w5.cell? ⟨wr.heap.size, 4, none⟩ = some (.complex .f64 zr zi) := hA5.cell 4
              have y5 : w5.cell? ⟨wr.heap.size, 5, none⟩ = some (.bool gone) := hA5.cell 5
              have y6 : w5.cell? ⟨wr.heap.size, 6, none⟩ = some (.string key) := hA5.cell 6
              have y7 : w5.cell? ⟨wr.heap.size, 7, none⟩ = some (.string value) := hA5.cell 7
              have i0 : w5.cell? ⟨g, j * 8, none⟩ = some (.int .u64 seq) := hio5 0 _ rfl
              have i1 : w5.cell? ⟨g, j * 8 + 1, none⟩ = some (.int .u64 ver) := hio5 1 _ rfl
              have i2 : w5.cell? ⟨g, j * 8 + 2, none⟩ = some (.int .i64 j) := hio5 2 _ rfl
              have i3 : w5.cell? ⟨g, j * 8 + 3, none⟩ = some (.int .i64 k) := hio5 3 _ rfl
              have i4 : w5.cell? ⟨g, j * 8 + 4, none⟩ = some (.complex .f64 zr zi) := hio5 4 _ rfl
              have i5 : w5.cell? ⟨g, j * 8 + 5, none⟩ = some (.bool gone) := hio5 5 _ rfl
              have i6 : w5.cell? ⟨g, j * 8 + 6, none⟩ = some (.string key) := hio5 6 _ rfl
              have i7 : w5.cell? ⟨g, j * 8 + 7, none⟩ = some (.string value) := hio5 7 _ rfl
              have hor := HOR.out r hr
              rw [HZR.out, HZI.out] at hor
              have heq := fun w => eq_item seq ver j k zr zi zr zi gone key value w hor.1 hor.2
              have dkk : ((k : Int) != k) = false := by simp
              clear hb5 hA5 hio5 hor
              go_wp2_with fail
              go_quiet (fail)
              go_wp2_with fail
              go_roundw
              case rel => exact ⟨j + 1, by omega, by go_num, rfl, below_drewN HB5.out _⟩
              case measure => simp [intOf]; omega
            · obtain rfl : j = k := by omega
              have HBZ := Lib.hid (keeps HB2.out hbel2)
              clear hbel2
              go_wp2_with (go_at_call 7; refine (X.out _).mono ?_; rintro e w' ⟨rfl, hbel⟩; have HBX := Lib.hid (keeps HBZ.out hbel); clear hbel)
              go_ret
              exact ⟨rfl, HBX.out⟩
        · have HNO := Lib.hid hno
          have HB2 := Lib.hid (keeps HBL.out hb2)
          have HVP2 := Lib.hid (HVP.out.below hb2)
          clear hno hb2
          go_wp2_with fail
          go_loopw [14, 15] (fun ok i wr3 => ∃ (j : Nat) (okb : Bool), j ≤ k ∧ i = .int .i64 j ∧ ok = .bool okb ∧ Below w2.heap.size w2 wr3 ∧ Hid (okb = true → ∀ l, l < j → may (F l) = true)) (fun _ i _ => k - (intOf i).toNat)
          case atStart => exact ⟨0, true, Nat.zero_le _, rfl, rfl, Below.refl _ _, Lib.hid (fun _ l hl => by omega)⟩
          case round =>
            obtain ⟨j, okb, hj, rfl, rfl, hbel2, HOKB⟩ := hrel
            cases okb with
            | false =>
              have HBZ := Lib.hid (keeps HB2.out hbel2)
              clear hbel2
              go_wp2_with (go_at_call 7; refine (X.out _).mono ?_; rintro e w' ⟨rfl, hbel⟩; have HBX := Lib.hid (keeps HBZ.out hbel); clear hbel)
              go_ret
              exact ⟨rfl, HBX.out⟩
            | true =>
              have hlt : j < k := by
                rcases Nat.lt_or_ge j k with h | h
                · exact h
                · exfalso
                  obtain ⟨i, hi, hf⟩ := HNO.out
                  rw [HOKB.out rfl i (by omega)] at hf
                  cases hf
              have HBW := Lib.hid (keeps HB2.out hbel2)
              have HBJ := Lib.hid hbel2
              obtain ⟨b, o, rfl, hbl, hc⟩ := (HP.out.below HBW.out) j hlt
              obtain ⟨bv, ov, rfl, hvl, hcv⟩ := (HV.out.below HBW.out) j hlt
              have hr : (j + 1) % k < k := Nat.mod_lt _ h0
              obtain ⟨bz, oz, rfl, hzl, hcz⟩ := (HVP2.out.below hbel2) _ hr
              have hFj : F j = ⟨seq, vs j, j, k, (bs ((j + 1) % k)).1.toNat, (bs ((j + 1) % k)).2.toNat, (ps j).gone, (ps j).key, (ps j).value⟩ := by rw [← HF.out]; rfl
              have hsz := HK.out j hlt
              dsimp only at hc hcv hcz
              obtain ⟨⟨key, value, gone⟩, hpk⟩ : ∃ p, ps j = p := ⟨_, rfl⟩
              obtain ⟨ver, hver⟩ : ∃ ver, vs j = ver := ⟨_, rfl⟩
              have e1 : IntKind.i64.wrap ((j : Int) + 1) = (j : Int) + 1 := IntWalk.i64_in _ (by omega)
              have e3 : ((j : Int) + 1).tmod (k : Int) = (((j + 1) % k : Nat) : Int) := by
                rw [Int.tmod_eq_emod_of_nonneg (by omega), show ((j : Int) + 1) = ((j + 1 : Nat) : Int) by omega]
                rfl
              obtain ⟨r, hre⟩ : ∃ r, (j + 1) % k = r := ⟨_, rfl⟩
              rw [hre] at hcz hr e3 hFj
              obtain ⟨zr, hzr⟩ : ∃ z, (bs r).1.toNat = z := ⟨_, rfl⟩
              obtain ⟨zi, hzi⟩ : ∃ z, (bs r).2.toNat = z := ⟨_, rfl⟩
              rw [hpk] at hc hsz hFj
              rw [hver] at hcv hFj
              rw [hzr, hzi] at hcz hFj
              dsimp only at hFj hsz
              have HFJ := Lib.hid hFj
              have p0 : wr.cell? ⟨b, o + j * 3, none⟩ = some (.string key) := hc 0 _ rfl
              have p1 : wr.cell? ⟨b, o + j * 3 + 1, none⟩ = some (.string value) := hc 1 _ rfl
              have p2 : wr.cell? ⟨b, o + j * 3 + 2, none⟩ = some (.bool gone) := hc 2 _ rfl
              have RD : Hid (∀ v, Below wr.heap.size wr v → Below wr.heap.size wr v ∧ v.cell? ⟨bv, ov + j, none⟩ = some (.int .u64 ver) ∧ v.cell? ⟨bz, oz + r, none⟩ = some (.complex .f64 zr zi) ∧ v.cell? ⟨b, o + j * 3, none⟩ = some (.string key) ∧ v.cell? ⟨b, o + j * 3 + 1, none⟩ = some (.string value) ∧ v.cell? ⟨b, o + j * 3 + 2, none⟩ = some (.bool gone)) := Lib.hid fun v hv => ⟨hv, (hv.cell (p := ⟨bv, ov + j, none⟩) hvl).trans hcv, (hv.cell (p := ⟨bz, oz + r, none⟩) hzl).trans hcz, (hv.cell (p := ⟨b, o + j * 3, none⟩) hbl).trans p0, (hv.cell (p := ⟨b, o + j * 3 + 1, none⟩) hbl).trans p1, (hv.cell (p := ⟨b, o + j * 3 + 2, none⟩) hbl).trans p2⟩
              have e4 : IntKind.i64.wrap (r : Int) = (r : Int) := IntWalk.i64_in _ (by omega)
              have nz : ¬ (k : Int) = 0 := by omega
              have nz2 : ((k : Int) == 0) = false := by rw [beq_eq_false_iff_ne]; omega
              have nz3 : ¬ k = 0 := by omega
              have e5 : ((j : Int) + 1) % (k : Int) = (r : Int) := by rw [← e3, Int.tmod_eq_emod_of_nonneg (by omega)]
              have hri : (r : Int) < k := by omega
              have hji : (j : Int) < k := by omega
              clear hc hpk hver hre hzr hzi hFj hbel2
              go_wp2_with fail
              refine wp_region_noPanic ?_
              go_region_held3 (fun v => Below wr.heap.size wr v ∧ v.cell? ⟨bv, ov + j, none⟩ = some (.int .u64 ver) ∧ v.cell? ⟨bz, oz + r, none⟩ = some (.complex .f64 zr zi) ∧ v.cell? ⟨b, o + j * 3, none⟩ = some (.string key) ∧ v.cell? ⟨b, o + j * 3 + 1, none⟩ = some (.string value) ∧ v.cell? ⟨b, o + j * 3 + 2, none⟩ = some (.bool gone))
                (first
                  | exact RD.out _ (Below.refl _ _)
                  | exact RD.out _ (by assumption)
                  | exact RD.out _ (Below.drew (by assumption))
                  | exact RD.out _ (Below.drew (Below.refl _ _))
                  | exact RD.out _ (And.left (by assumption))
                  | exact RD.out _ (Below.alloc (And.left (by assumption)) (Below.size (And.left (by assumption))) _)
                  | exact RD.out _ (Below.alloc (Below.refl _ _) (Nat.le_refl _) _)
                  | exact RD.out _ (Below.drew (Below.alloc (Below.refl _ _) (Nat.le_refl _) _)))
                (first
                  | fail)
              refine NoPanic.normal ?_
              clear e1 e3 e4 e5 p0 p1 p2 hcv hcz
              obtain ⟨W3, hW3⟩ : ∃ W3, (wr.alloc (.cells #[.int .u64 seq, .int .u64 ver, .int .i64 j, .int .i64 k, .complex .f64 zr zi, .bool gone, .string key, .string value] 33)).drew = W3 := ⟨_, rfl⟩
              have hA : Blk W3 wr.heap.size #[.int .u64 seq, .int .u64 ver, .int .i64 j, .int .i64 k, .complex .f64 zr zi, .bool gone, .string key, .string value] 33 := by rw [← hW3]; exact (Blk.new_ wr _ _).drew
              have hWB : Below wr.heap.size wr W3 := by rw [← hW3]; exact ((Below.refl _ _).alloc (Nat.le_refl _) _).drew
              rw [hW3]
              have HBA := Lib.hid (keeps HBJ.out hWB)
              have HA := Lib.hid hA
              have y0 : W3.cell? ⟨wr.heap.size, 0, none⟩ = some (.int .u64 seq) := hA.cell 0
              have y1 : W3.cell? ⟨wr.heap.size, 1, none⟩ = some (.int .u64 ver) := hA.cell 1
              have y2 : W3.cell? ⟨wr.heap.size, 2, none⟩ = some (.int .i64 j) := hA.cell 2
              have y3 : W3.cell? ⟨wr.heap.size, 3, none⟩ = some (.int .i64 k) := hA.cell 3
              have y4 : W3.cell? ⟨wr.heap.size, 4, none⟩ = some (.complex .f64 zr zi) := hA.cell 4
              have y5 : W3.cell? ⟨wr.heap.size, 5, none⟩ = some (.bool gone) := hA.cell 5
              have y6 : W3.cell? ⟨wr.heap.size, 6, none⟩ = some (.string key) := hA.cell 6
              have y7 : W3.cell? ⟨wr.heap.size, 7, none⟩ = some (.string value) := hA.cell 7
              have M : Hid (∀ w, Calls Try.prog 14 #[.agg #[.int .u64 seq, .int .u64 ver, .int .i64 j, .int .i64 k, .complex .f64 zr zi, .bool gone, .string key, .string value]] w fun e w' => e = .returned (.bool (may (F j))) ∧ Below w.heap.size w w') := Lib.hid (fun w => by rw [HFJ.out]; exact refmay_calls ⟨seq, ver, j, k, zr, zi, gone, key, value⟩ w hsz.1 hsz.2)
              clear hW3 hWB hA
              cases hm : may (F j) with
              | true =>
                rw [hm] at M
                have HMJ := Lib.hid hm
                clear hm
                go_wp2_with fail
                refine (M.out _).mono ?_
                rintro e w5 ⟨rfl, hb5⟩
                have hA5 := HA.out.below hb5
                have HB5 := Lib.hid (keeps HBA.out hb5)
                clear y0 y1 y2 y3 y4 y5 y6 y7
                have y0 : w5.cell? ⟨wr.heap.size, 0, none⟩ = some (.int .u64 seq) := hA5.cell 0
                have y1 : w5.cell? ⟨wr.heap.size, 1, none⟩ = some (.int .u64 ver) := hA5.cell 1
                have y2 : w5.cell? ⟨wr.heap.size, 2, none⟩ = some (.int .i64 j) := hA5.cell 2
                have y3 : w5.cell? ⟨wr.heap.size, 3, none⟩ = some (.int .i64 k) := hA5.cell 3
                have y4 : w5.cell? ⟨wr.heap.size, 4, none⟩ = some (.complex .f64 zr zi) := hA5.cell 4
                have y5 : w5.cell? ⟨wr.heap.size, 5, none⟩ = some (.bool gone) := hA5.cell 5
                have y6 : w5.cell? ⟨wr.heap.size, 6, none⟩ = some (.string key) := hA5.cell 6
                have y7 : w5.cell? ⟨wr.heap.size, 7, none⟩ = some (.string value) := hA5.cell 7
                clear hb5 hA5
                go_wp2_with fail
                go_quiet (fail)
                go_wp2_with fail
                go_roundw
                case rel => exact ⟨j + 1, true, by omega, by go_num, rfl, below_drewN HB5.out _, Lib.hid (fun _ l hl => by
                  rcases Nat.lt_or_ge l j with h | h
                  · exact HOKB.out (by first | rfl | trivial) l h
                  · obtain rfl : l = j := by omega
                    exact HMJ.out)⟩
                case measure => simp [intOf]; omega
              | false =>
                rw [hm] at M
                have HMJ := Lib.hid hm
                clear hm
                go_wp2_with fail
                refine (M.out _).mono ?_
                rintro e w5 ⟨rfl, hb5⟩
                have hA5 := HA.out.below hb5
                have HB5 := Lib.hid (keeps HBA.out hb5)
                clear y0 y1 y2 y3 y4 y5 y6 y7
                have y0 : w5.cell? ⟨wr.heap.size, 0, none⟩ = some (.int .u64 seq) := hA5.cell 0
                have y1 : w5.cell? ⟨wr.heap.size, 1, none⟩ = some (.int .u64 ver) := hA5.cell 1
                have y2 : w5.cell? ⟨wr.heap.size, 2, none⟩ = some (.int .i64 j) := hA5.cell 2
                have y3 : w5.cell? ⟨wr.heap.size, 3, none⟩ = some (.int .i64 k) := hA5.cell 3
                have y4 : w5.cell? ⟨wr.heap.size, 4, none⟩ = some (.complex .f64 zr zi) := hA5.cell 4
                have y5 : w5.cell? ⟨wr.heap.size, 5, none⟩ = some (.bool gone) := hA5.cell 5
                have y6 : w5.cell? ⟨wr.heap.size, 6, none⟩ = some (.string key) := hA5.cell 6
                have y7 : w5.cell? ⟨wr.heap.size, 7, none⟩ = some (.string value) := hA5.cell 7
                clear hb5 hA5
                go_wp2_with fail
                go_quiet (fail)
                go_wp2_with fail
                go_roundw
                case rel => exact ⟨j + 1, false, by omega, by go_num, rfl, below_drewN HB5.out _, Lib.hid (fun h => by cases h)⟩
                case measure => simp [intOf]; omega
end Go.Proofs.Ythmcakaboebagaa.RingLn
