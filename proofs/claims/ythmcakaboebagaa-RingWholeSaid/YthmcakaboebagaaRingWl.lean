/- The contract of layer 7's law's linked: a ring of pairs, as it is found. -/
import Derived.Test.YthmcakaboebagaaRingLn
import Derived.Test.YthmcakaboebagaaRingS
import Derived.Deep.RegionHeld3
import Derived.Deep.AppendLies
import Derived.Deep.Onto
namespace Go.Proofs.Ythmcakaboebagaa.RingWl
set_option linter.unusedVariables false
set_option linter.unusedSimpArgs false
open Go.RowKit
open Go.Proofs.Ythmcakaboebagaa.Byte Go.Proofs.Ythmcakaboebagaa.PlaceM Go.Proofs.Ythmcakaboebagaa.PlaceV Go.Proofs.Ythmcakaboebagaa.RingM Go.Proofs.Ythmcakaboebagaa.RingN Go.Proofs.Ythmcakaboebagaa.RingC Go.Proofs.Ythmcakaboebagaa.RingE Go.Proofs.Ythmcakaboebagaa.RingK Go.Proofs.Ythmcakaboebagaa.RingF Go.Proofs.Ythmcakaboebagaa.RingS Go.Proofs.Ythmcakaboebagaa.RingD Go.Proofs.Ythmcakaboebagaa.RingLn Go.Proofs.Ythmcakaboebagaa.Rw Go.Proofs.Ythmcakaboebagaa.Own

attribute [local go_sem] Own.run_store_complex
/-- The place number j. -/
def fl (j : Nat) : Nat := floatOfInt .f64 ((j % 7 : Nat) : Int)
def fo (j : Nat) : Nat := floatOfInt .f64 (8 + 40 * (j : Int))
def ats (k : Nat) : List Value := (List.range k).map (fun j => .complex .f64 (fl j) (fo j))
theorem ats_succ (k : Nat) : ats (k + 1) = ats k ++ [.complex .f64 (fl k) (fo k)] := by unfold ats; rw [List.range_succ, List.map_append]; rfl
def seqs (seq : Int) (k : Nat) : List Value := List.replicate k (.int .u64 seq)
theorem seqs_succ (seq : Int) (k : Nat) : seqs seq (k + 1) = seqs seq k ++ [.int .u64 seq] := by unfold seqs; exact List.replicate_succ'
/-- The item number j, and how it is found. -/
def lk (seq : Int) (n : Nat) (ps : Nat → Pa) (j : Nat) : It := li seq n ps (fun _ => seq) (fun j => (fl j, fo j)) j
def fdl (seq : Int) (n : Nat) (ps : Nat → Pa) (j : Nat) : Fnd := ⟨fl j, fo j, RingM.size (ps j).key.size (ps j).value.size, false, lk seq n ps j⟩
theorem own_ne {w : World} {base base' n n' size size' : Nat} {e e' : TypeId} {v u : Value} {xs ys : List Value} (h : w.ownsRow base e size v n xs) (h' : w.ownsRow base' e' size' u n' ys) (hne : e ≠ e') : v.ownBlock = none ∨ v.ownBlock ≠ u.ownBlock := by
  rcases h.2 with ⟨h1, _⟩ | ⟨g, cap, cur, h1, _, hg, _⟩
  · left
    rw [h1]
    rfl
  · rcases h'.2 with ⟨h2, _⟩ | ⟨g', cap', cur', h2, _, hg', _⟩
    · right
      rw [h1, h2]
      simp [Value.ownBlock]
    · right
      rw [h1, h2]
      simp only [Value.ownBlock, ne_eq, Option.some.injEq]
      rintro rfl
      rw [hg] at hg'
      cases hg'
      exact hne rfl
theorem own_vs {w : World} {base n : Nat} {e : TypeId} {v : Value} {xs : List Value} {f : Nat → Value} (h : w.ownsRow base e 1 v n xs) (hx : ∀ j, j < n → xs[j]? = some (f j)) : ∃ D cp, v = .slice D n cp ∧ Vs w D n f := by
  rcases h.2 with ⟨h1, h0⟩ | ⟨g, cap, cur, h1, r⟩
  · subst h0
    exact ⟨none, 0, h1, fun j hj => by omega⟩
  · refine ⟨_, cap, h1, fun j hj => ⟨g, 0, rfl, (h.lt g (by rw [h1]; rfl)).2, ?_⟩⟩
    have := h.cells (g := g) (by rw [h1]; rfl) j (f j) (hx j hj)
    rw [Addr.add_mid] at this
    exact this
theorem info_u64 : (Try.prog.info? 25).map (fun i => (i.zero, i.size, i.bytes)) = some (some (.int .u64 0), 1, 8) := by kernel_rfl
def LinkedE (seq : Int) (n : Nat) (ps : Nat → Pa) (w : World) (e : Ending) (w' : World) : Prop :=
  (e = .returned (.slice none 0 0) ∧ Below w.heap.size w w') ∨
    ∃ g cap, e = .returned (.slice (some ⟨g, 0, none⟩) n cap) ∧ Fo w' w.heap.size g n cap ((List.range n).map (fdl seq n ps)) ∧ (∀ j, j < n → may (lk seq n ps j) = true) ∧ Below w.heap.size w w'
set_option maxRecDepth 100000 in
set_option maxHeartbeats 4000000 in
theorem linked_calls (A : Option Addr) (seq : Int) (n c : Nat) (ps : Nat → Pa) (w : World) (h0 : 0 < n) (hn : n ≤ 100)
    (hp : Rs w A n 3 (fun j => (ps j).cells)) (hk : ∀ j, j < n → (ps j).key.size ≤ maxLen ∧ (ps j).value.size ≤ maxLen) :
    Calls Try.prog 10 #[.int .u64 seq, .slice A n c] w (LinkedE seq n ps w) := by
  obtain ⟨i0, hi, hz0, hz1, hz2⟩ := info_parts info_cx
  obtain ⟨u0, ui, uz0, uz1, uz2⟩ := info_parts info_u64
  have HP := Lib.hid hp
  have HK := Lib.hid hk
  clear hp hk
  go_enter Try.func10, Try.ntmps10
  go_wp2_with fail
  go_loopw [5, 6, 15] (fun v u i wr => ∃ (k : Nat) (v' u' : Value), k ≤ n ∧ i = .int .i64 k ∧ v' = v ∧ u' = u ∧ wr.ownsRow w.heap.size 31 1 v' k (ats k) ∧ wr.ownsRow w.heap.size 25 1 u' k (seqs seq k) ∧ Below w.heap.size w wr) (fun _ _ i _ => n - (intOf i).toNat)
  case atStart => exact ⟨0, _, _, Nat.zero_le _, rfl, rfl, rfl, World.ownsRow_nil _ _ _ _, World.ownsRow_nil _ _ _ _, Below.refl _ _⟩
  case round =>
    obtain ⟨k, v, u, hk, rfl, rfl, rfl, hrow, hrow2, hbel⟩ := hrel
    have HRW := Lib.hid hrow
    have HRU := Lib.hid hrow2
    have HBL := Lib.hid hbel
    have hbs := hbel.size
    clear hrow hrow2 hbel
    by_cases hlt : k < n
    · have HA1 := Lib.hid (ats_succ k)
      have HU1 := Lib.hid (seqs_succ seq k)
      have hm7 : ((k : Int)).tmod 7 = ((k % 7 : Nat) : Int) := by rw [Int.tmod_eq_emod_of_nonneg (by omega)]; rfl
      have hm8 : (k : Int) % 7 = ((k % 7 : Nat) : Int) := rfl
      have h7 : k % 7 < 7 := Nat.mod_lt _ (by omega)
      obtain ⟨s7, hs7⟩ : ∃ s, k % 7 = s := ⟨_, rfl⟩
      have HFL : Hid (fl k = floatOfInt .f64 (s7 : Int)) := Lib.hid (by unfold fl; rw [hs7])
      rw [hs7] at hm7 hm8 h7
      have HNE := Lib.hid (own_ne HRU.out HRW.out (by decide))
      clear hs7
      go_wp2_with (first
        | (go_at_call 16; refine (of_yes (s7 : Int) (8 + 40 * (k : Int)) _ (by omega) (by omega) (by omega) (by omega)).mono ?_; rintro e w' ⟨rfl, rfl⟩)
        | ((with_reducible refine pick (some 26) ?_); refine wpList_append_lies _ rfl _ _ _ rfl w.heap.size 31 i0 _ 1 16 Try.underlying39 hi hz0 hz1 hz2 rfl (by omega) v k _ rfl (HRW.out.alloc _) ⟨wr.heap.size, 0, none⟩ 1 1 [.complex .f64 (floatOfInt .f64 (s7 : Int)) (floatOfInt .f64 (8 + 40 * (k : Int)))] rfl rfl (World.news_of_block (heap_alloc_new wr (.cells #[.complex .f64 (floatOfInt .f64 (s7 : Int)) (floatOfInt .f64 (8 + 40 * (k : Int)))] 31))) (by simp [Value.oneCell']) (by omega) (by unfold maxLen; omega) (by omega) (by simp; omega) _ rfl ?_; intro gg cap w3 hown3 hgrow hat3 hlt3; have hb3 : Below w.heap.size w w3 := (HBL.out.alloc HBL.out.size _).grown hgrow (by simp; omega) (fun g hg => (HRW.out.lt g hg).1); have HRU3 := Lib.hid ((HRU.out.alloc (.cells #[.complex .f64 (floatOfInt .f64 (s7 : Int)) (floatOfInt .f64 (8 + 40 * (k : Int)))] 31)).kept hgrow HNE.out))
        | ((with_reducible refine pick (some 30) ?_); refine wpList_append_lies _ rfl _ _ _ rfl w.heap.size 25 u0 _ 1 8 Try.underlying37 ui uz0 uz1 uz2 rfl (by omega) u k _ rfl (HRU3.out.alloc _) ⟨w3.heap.size, 0, none⟩ 1 1 [.int .u64 seq] rfl rfl (World.news_of_block (heap_alloc_new w3 (.cells #[.int .u64 seq] 25))) (by simp [Value.oneCell']) (by omega) (by unfold maxLen; omega) (by omega) (by have := hb3.size; simp; omega) _ rfl ?_; intro g4 cap4 w4 hown4 hgrow4 hat4 hlt4; have hb4 : Below w.heap.size w w4 := (hb3.alloc hb3.size _).grown hgrow4 (by have := hb3.size; simp; omega) (fun g hg => (HRU3.out.lt g hg).1)))
      have hk3 := ((hown3.alloc (.cells #[.int .u64 seq] 25)).kept hgrow4 (own_ne hown3 HRU3.out (by decide)))
      rw [← HFL.out] at hk3
      have HR5 : Hid (w4.ownsRow w.heap.size 31 1 (.slice (some ⟨gg, 0, none⟩) (k + 1) cap) (k + 1) (ats (k + 1))) := Lib.hid (by rw [HA1.out]; exact hk3)
      have HR6 : Hid (w4.ownsRow w.heap.size 25 1 (.slice (some ⟨g4, 0, none⟩) (k + 1) cap4) (k + 1) (seqs seq (k + 1))) := Lib.hid (by rw [HU1.out]; exact hown4)
      have HB6 := Lib.hid hb4
      clear hk3 hown3 hown4 hb4 hb3 hgrow hgrow4 hat3 hat4
      go_roundw
      case rel => exact ⟨k + 1, _, _, by omega, by go_num, rfl, rfl, HR5.out, HR6.out, HB6.out⟩
      case measure => simp [intOf]; omega
    · obtain rfl : k = n := by omega
      obtain ⟨Da, ca, rfl, hat⟩ := own_vs HRW.out (f := fun j => .complex .f64 (fl j) (fo j)) (fun j hj => by unfold ats; rw [List.getElem?_map, List.getElem?_range hj]; rfl)
      obtain ⟨Db, cb, rfl, hvs⟩ := own_vs HRU.out (f := fun _ => .int .u64 seq) (fun j hj => by unfold seqs; rw [List.getElem?_replicate, if_pos hj])
      have HAT := Lib.hid hat
      have HVS := Lib.hid hvs
      clear hat hvs
      have LK := Lib.hid (link_calls A Db Da seq k c cb ca ps (fun _ => seq) (fun j => (fl j, fo j)) wr h0 (by omega) (HP.out.below HBL.out) HVS.out HAT.out HK.out)
      go_wp2_with fail
      refine (LK.out).mono ?_
      rintro e w3 ⟨⟨g, rfl, hio, hall⟩ | ⟨rfl, _⟩, hb3⟩
      · have HALL := Lib.hid hall
        have HB3 := Lib.hid (keeps HBL.out hb3)
        obtain ⟨X, hX⟩ : ∃ X, lk seq k ps = X := ⟨_, rfl⟩
        have HX := Lib.hid hX
        have hio1 : Io w3 wr.heap.size g k X := by rw [← hX]; exact hio
        have HIO := Lib.hid hio1
        have HAT3 := Lib.hid (HAT.out.below hb3)
        obtain ⟨j0, hjx, hy0, hy1, hy2⟩ := info_parts info_found
        have hws3 := HB3.out.size
        clear hio hall hb3 hX hio1 HVS HAT HRW HRU hbs
        go_wp2_with fail
        go_loopw [10, 44] (fun u i wq => ∃ (j : Nat) (v : Value), j ≤ k ∧ i = .int .i64 j ∧ v = u ∧ wq.ownsRow w3.heap.size 35 11 v j (flat ((List.range j).map (fdl seq k ps))) ∧ Below w3.heap.size w3 wq) (fun _ i _ => k - (intOf i).toNat)
        case atStart => exact ⟨0, _, Nat.zero_le _, rfl, rfl, World.ownsRow_nil _ _ _ _, Below.refl _ _⟩
        case round =>
          obtain ⟨j, v, hj, rfl, rfl, hrow, hbel⟩ := hrel
          have HRW := Lib.hid hrow
          have HBQ := Lib.hid hbel
          have hqs := hbel.size
          by_cases hlt : j < k
          · obtain ⟨bz, oz, rfl, hz3, hcz⟩ := HAT3.out j hlt
            dsimp only at hcz
            have hzl : bz < wr.heap.size := Nat.lt_of_lt_of_le hz3 hqs
            have hcz := (hbel.cell (p := ⟨bz, oz + j, none⟩) hz3).trans hcz
            have hc := (HIO.out.below hbel).cells j hlt
            obtain ⟨x, hx⟩ : ∃ x, X j = x := ⟨_, rfl⟩
            have hsz : x.key.size ≤ maxLen ∧ x.value.size ≤ maxLen := by rw [← hx, ← HX.out]; exact HK.out j hlt
            have hfd : fdl seq k ps j = ⟨fl j, fo j, RingM.size x.key.size x.value.size, false, x⟩ := by rw [← hx, ← HX.out]; rfl
            rw [hx] at hc
            obtain ⟨zs, ver, index, count, re, im, gone, key, value⟩ := x
            dsimp only at hsz hfd
            have HC : Hid (wr.rangeAt g (j * 8) [.int .u64 zs, .int .u64 ver, .int .i64 index, .int .i64 count, .complex .f64 re im, .bool gone, .string key, .string value]) := Lib.hid hc
            obtain ⟨zr, hzr⟩ : ∃ z, fl j = z := ⟨_, rfl⟩
            obtain ⟨zi, hzi⟩ : ∃ z, fo j = z := ⟨_, rfl⟩
            rw [hzr, hzi] at hcz hfd
            obtain ⟨sz, hsze⟩ : ∃ z, RingM.size key.size value.size = z := ⟨_, rfl⟩
            have HZ := Lib.hid (fun w => size_calls key value w hsz.1 hsz.2)
            rw [hsze] at HZ hfd
            have HFD := Lib.hid hfd
            have hgl := HIO.out.hi
            clear hc hx hrow hbel hzr hzi hsze hfd
            go_wp2_with ((with_reducible refine pick (some 48) ?_); refine wpList_load_mid rfl 33 _ rfl g (j * 8) rfl [.int .u64 zs, .int .u64 ver, .int .i64 index, .int .i64 count, .complex .f64 re im, .bool gone, .string key, .string value] _ HC.out Try.underlying33 rfl info_item ?_)
            obtain ⟨V, hV⟩ : ∃ V, wr.alloc (.cells #[.int .u64 zs, .int .u64 ver, .int .i64 index, .int .i64 count, .complex .f64 re im, .bool gone, .string key, .string value] 33) = V := ⟨_, rfl⟩
            have hA2 : Blk V wr.heap.size #[.int .u64 zs, .int .u64 ver, .int .i64 index, .int .i64 count, .complex .f64 re im, .bool gone, .string key, .string value] 33 := by rw [← hV]; exact Blk.new_ _ _ _
            have hb2 : Below wr.heap.size wr V := by rw [← hV]; exact (Below.refl _ _).alloc (Nat.le_refl _) _
            rw [hV]
            clear hV
            have s0 : V.cell? ⟨bz, oz + j, none⟩ = some (.complex .f64 zr zi) := (hb2.cell (p := ⟨bz, oz + j, none⟩) hzl).trans hcz
            have s1 : V.cell? ⟨wr.heap.size, 0, none⟩ = some (.int .u64 zs) := hA2.cell 0
            have s2 : V.cell? ⟨wr.heap.size, 1, none⟩ = some (.int .u64 ver) := hA2.cell 1
            have s3 : V.cell? ⟨wr.heap.size, 2, none⟩ = some (.int .i64 index) := hA2.cell 2
            have s4 : V.cell? ⟨wr.heap.size, 3, none⟩ = some (.int .i64 count) := hA2.cell 3
            have s5 : V.cell? ⟨wr.heap.size, 4, none⟩ = some (.complex .f64 re im) := hA2.cell 4
            have s6 : V.cell? ⟨wr.heap.size, 5, none⟩ = some (.bool gone) := hA2.cell 5
            have s7 : V.cell? ⟨wr.heap.size, 6, none⟩ = some (.string key) := hA2.cell 6
            have s8 : V.cell? ⟨wr.heap.size, 7, none⟩ = some (.string value) := hA2.cell 7
            have hrowV := RingF.own_below HRW.out hb2
            have HRV := Lib.hid hrowV
            have hvb : ∀ g, v.ownBlock = some g → w3.heap.size ≤ g ∧ g < wr.heap.size := fun g hg => RingF.own_lt HRW.out g hg
            have ag : v.ownBlock ≠ some bz := fun e => by have := hvb _ e; omega
            have ak : v.ownBlock ≠ some wr.heap.size := fun e => by have := hvb _ e; omega
            have hbV := hb2.size
            have hiv := hA2.lt
            have HB2 := Lib.hid hb2
            have hji : (j : Int) < (k : Int) := by omega
            clear hA2 hb2 hrowV hvb hcz
            go_region_held3 (fun v' => v'.cell? ⟨bz, oz + j, none⟩ = some (.complex .f64 zr zi) ∧ v'.cell? ⟨wr.heap.size, 0, none⟩ = some (.int .u64 zs) ∧ v'.cell? ⟨wr.heap.size, 1, none⟩ = some (.int .u64 ver) ∧ v'.cell? ⟨wr.heap.size, 2, none⟩ = some (.int .i64 index) ∧ v'.cell? ⟨wr.heap.size, 3, none⟩ = some (.int .i64 count) ∧ v'.cell? ⟨wr.heap.size, 4, none⟩ = some (.complex .f64 re im) ∧ v'.cell? ⟨wr.heap.size, 5, none⟩ = some (.bool gone) ∧ v'.cell? ⟨wr.heap.size, 6, none⟩ = some (.string key) ∧ v'.cell? ⟨wr.heap.size, 7, none⟩ = some (.string value))
              (first
                | go_keep
                | (go_split_ands
                   refine ⟨?_, ?_, ?_, ?_, ?_, ?_, ?_, ?_, ?_⟩
                   · (rw [hgrow.cell_far _ (by simp; omega) (Ne.symm ag)]; assumption)
                   · (rw [hgrow.cell_far _ (by simp; omega) (Ne.symm ak)]; assumption)
                   · (rw [hgrow.cell_far _ (by simp; omega) (Ne.symm ak)]; assumption)
                   · (rw [hgrow.cell_far _ (by simp; omega) (Ne.symm ak)]; assumption)
                   · (rw [hgrow.cell_far _ (by simp; omega) (Ne.symm ak)]; assumption)
                   · (rw [hgrow.cell_far _ (by simp; omega) (Ne.symm ak)]; assumption)
                   · (rw [hgrow.cell_far _ (by simp; omega) (Ne.symm ak)]; assumption)
                   · (rw [hgrow.cell_far _ (by simp; omega) (Ne.symm ak)]; assumption)
                   · (rw [hgrow.cell_far _ (by simp; omega) (Ne.symm ak)]; assumption)))
              (first
                | (go_at_call 8; refine (HZ.out _).mono ?_; rintro e w' ⟨rfl, rfl⟩)
                | (refine step_append_lies _ (by rfl) _ _ _ (by rfl) w3.heap.size 35 j0 _ 11 120 Try.underlying28 hjx hy0 hy1 hy2 rfl (by omega) v j _ (by rfl) ((HRV.out.alloc _).drew)
                    ⟨V.heap.size, 0, none⟩ 1 1 [.complex .f64 zr zi, .int .i64 sz, .bool false, .int .u64 zs, .int .u64 ver, .int .i64 index, .int .i64 count, .complex .f64 re im, .bool gone, .string key, .string value] (by rfl) (by rfl) (World.news_of_block (cs := #[.complex .f64 zr zi, .int .i64 sz, .bool false, .int .u64 zs, .int .u64 ver, .int .i64 index, .int .i64 count, .complex .f64 re im, .bool gone, .string key, .string value]) (t := 35) (fr := (0, 0)) (heap_alloc_new V _)) (by simp [Value.oneCell'])
                    (by omega) (by unfold maxLen; omega) (by omega) (by simp; omega) (V.heap.size + 1) (by simp) ?_; intro gg cap wz hown3 hgrow hat hlt'))
            have HW3 : Hid (Below w3.heap.size w3 wz) := Lib.hid ((((HBQ.out.trans (HB2.out.mono HBQ.out.size)).alloc (by omega) _).drew).grown hgrow (by simp; omega) (fun g hg => (RingF.own_lt HRW.out g hg).1))
            have HR3 : Hid (wz.ownsRow w3.heap.size 35 11 (.slice (some ⟨gg, 0, none⟩) (j + 1) cap) (j + 1) (flat ((List.range (j + 1)).map (fdl seq k ps)))) := Lib.hid (by
              unfold flat at hown3 ⊢
              rw [List.range_succ, List.map_append, List.flatMap_append, List.map_singleton, List.flatMap_singleton, HFD.out]
              exact hown3)
            clear hown3 hgrow hat hlt'
            go_wp2_with fail
            go_roundw
            case rel => exact ⟨j + 1, _, by omega, by go_num, rfl, HR3.out, HW3.out⟩
            case measure => simp [intOf]; omega
          · obtain rfl : j = k := by omega
            clear hrow hbel
            obtain ⟨gg, cap, rfl, hg1, hg2⟩ := HRW.out.form h0
            have HFO : Hid (Fo wr w.heap.size gg j cap ((List.range j).map (fdl seq j ps))) := Lib.hid ⟨by simp, HRW.out.mono hws3⟩
            have HBE := Lib.hid (keeps HB3.out HBQ.out)
            go_wp2_with fail
            go_ret
            exact .inr ⟨gg, cap, rfl, HFO.out, fun i hi => HALL.out i hi, HBE.out⟩
      · have HB3 := Lib.hid (keeps HBL.out hb3)
        clear hb3
        go_wp2_with fail
        go_ret
        exact .inl ⟨rfl, HB3.out⟩
end Go.Proofs.Ythmcakaboebagaa.RingWl
