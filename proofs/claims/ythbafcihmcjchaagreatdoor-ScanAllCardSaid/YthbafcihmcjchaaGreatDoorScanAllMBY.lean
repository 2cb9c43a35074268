/- Merged: ScanAl NorDt. -/
import Derived.Deep.MidRow
import Derived.Deep.RegionHeld3
import Derived.Test.YthbafcihmcjchaaGreatDoorScanAllMBO
import Derived.Test.YthbafcihmcjchaaGreatDoorScanAllMBX
import Derived.Test.YthbafcihmcjchaaGreatDoorScanAllMBW
/- The project's All of layer 8: of a device that is off, of none, and of one that is on. -/
namespace Go.Proofs.YthbafcihmcjchaaGreatDoor.ScanAl
set_option linter.unusedVariables false
set_option linter.unusedSimpArgs false
open Go.RowKit
open Go.Proofs.YthbafcihmcjchaaGreatDoor.Byte Go.Proofs.YthbafcihmcjchaaGreatDoor.PlaceM Go.Proofs.YthbafcihmcjchaaGreatDoor.PlaceV Go.Proofs.YthbafcihmcjchaaGreatDoor.RingK Go.Proofs.YthbafcihmcjchaaGreatDoor.RingS Go.Proofs.YthbafcihmcjchaaGreatDoor.ScanM Go.Proofs.YthbafcihmcjchaaGreatDoor.ScanO Go.Proofs.YthbafcihmcjchaaGreatDoor.Own

theorem info_ssec : (Tryz.prog.info? 52).map (fun i => (i.zero, i.size, i.bytes)) = some (some (.agg #[.int .i64 0, .int .i64 0, .bool false, .slice none 0 0]), 4, 48) := by kernel_rfl
theorem info_geo : (Tryz.prog.info? 28).map (·.size) = some 2 := by kernel_rfl
theorem blk_cells {t : TypeId} {g : Nat} (vs : List Value) : ∀ (o : Nat) {w : World} {cs : Array Value}, Blk w g cs t → ∃ cs', Blk (w.setCells g o vs) g cs' t ∧ cs'.size = cs.size ∧ w.grownBy (w.setCells g o vs) (some g) := by
  induction vs with
  | nil => intro o w cs h; exact ⟨cs, h, rfl, rfl, rfl, rfl, Nat.le_refl _, fun _ _ _ => rfl⟩
  | cons v vs ih =>
    intro o w cs h
    obtain ⟨cs', h1, h2, h3⟩ := ih (o + 1) (h.set_ o v)
    exact ⟨cs', h1, by rw [h2]; simp, (grown_set w g o v).trans h3⟩
theorem blk_there {w : World} {g : Nat} {cs : Array Value} {t : TypeId} (h : Blk w g cs t) (o n : Nat) (hs : o + n ≤ cs.size) : w.there g o n := fun j hj =>
  ⟨by rw [h.cell]; simp; omega, h.frozen _⟩
def secCells (n z : Int) (xs : List Int) (j : Nat) (v : Value) : List Value := [.int .i64 (cl n z xs), .int .i64 (en n z xs j), .bool (fu n z xs j), v]
/-- The first k of a slice of n sectors (in block g) read as what is found in these rows. -/
def Sects (w : World) (g n z : Nat) (row : Nat → List Int) (k : Nat) : Prop :=
  (∃ cs, Blk w g cs 52 ∧ cs.size = n * 4) ∧ ∀ j, j < k → ∃ v, w.rangeAt g (j * 4) (secCells n z (row j) j v) ∧ w.ownsRow (g + 1) 103 11 v (fo n z (row j) j).length (flat (fo n z (row j) j))
section
variable {w w' : World} {g n z k : Nat} {row : Nat → List Int}
theorem Sects.lt (h : Sects w g n z row k) : g < w.heap.size := by
  obtain ⟨⟨cs, h, _⟩, _⟩ := h
  exact h.lt
theorem Sects.below (h : Sects w g n z row k) (hb : Below w.heap.size w w') : Sects w' g n z row k := by
  obtain ⟨⟨cs, h1, h2⟩, h3⟩ := h
  refine ⟨⟨cs, h1.below hb, h2⟩, fun j hj => ?_⟩
  obtain ⟨v, h4, h5⟩ := h3 j hj
  exact ⟨v, fun i u hu => (hb.cell (p := ⟨g, j * 4 + i, none⟩) h1.lt).trans (h4 i u hu), RingF.own_below h5 hb⟩
theorem Sects.there_ (h : Sects w g n z row k) (hk : k < n) : w.there g (k * 4) 4 := by
  obtain ⟨⟨cs, h1, h2⟩, h3⟩ := h
  exact blk_there h1 _ _ (by omega)
theorem Sects.store (h : Sects w g n z row k) (hk : k < n) (v : Value) (ho : w.ownsRow (g + 1) 103 11 v (fo n z (row k) k).length (flat (fo n z (row k) k))) :
    Sects (w.setCells g (k * 4) (secCells n z (row k) k v)) g n z row (k + 1) ∧ w.grownBy (w.setCells g (k * 4) (secCells n z (row k) k v)) (some g) := by
  have ht := h.there_ hk
  obtain ⟨⟨cs, h1, h2⟩, h3⟩ := h
  obtain ⟨cs', h4, h5, h6⟩ := blk_cells (secCells n z (row k) k v) (k * 4) h1
  refine ⟨⟨⟨cs', h4, by rw [h5, h2]⟩, fun j hj => ?_⟩, h6⟩
  rcases Nat.lt_or_eq_of_le (Nat.le_of_lt_succ hj) with hj | rfl
  · obtain ⟨u, q1, q2⟩ := h3 j hj
    exact ⟨u, World.rangeAt_setCells_apart q1 g (k * 4) _ (.inr (.inl (by show j * 4 + 4 ≤ k * 4; omega))), q2.kept h6 (own_not q2 (by omega))⟩
  · exact ⟨v, World.rangeAt_setCells_same w g (j * 4) _ ht, ho.kept h6 (own_not ho (by omega))⟩
end
theorem made (n : Nat) (hn : n ≤ 64) (w : World) : (Instr.makeSlice 46 (.int .i64 n) (.int .i64 n)).run Tryz.prog w = .ok (.slice (some ⟨w.heap.size, 0, none⟩) n n) (w.alloc (.cells (madeCells (Value.agg #[.int .i64 0, .int .i64 0, .bool false, .slice none 0 0]).cells (n * 4)) 52)) := by
  obtain ⟨i, hi, hz0, hz1, hz2⟩ := info_parts info_ssec
  have := run_makeSlice (P := Tryz.prog) (w := w) 46 52 i _ Tryz.underlying46 hi hz0 .i64 .i64 n n (by omega) (by omega) (by rw [hz1, Int.toNat_natCast]; omega) (by rw [hz2]; omega) (by omega)
  rw [hz1, Int.toNat_natCast] at this
  exact this
section
variable {lo hi d n z K : Nat} {s : NorS.St}
set_option maxHeartbeats 1000000 in
theorem all_off (w : World) (hD : NorS.Dev w lo hi d n z K s) (hoff : s.on = false) : Calls Tryz.prog 12 #[.pointer (some ⟨d, 0, none⟩)] w fun e w' => e = .returned (.tuple #[.slice none 0 0, .int .i64 7]) ∧ w = w' := by
  obtain ⟨_, _, _, _, _, _, _, _, _, h⟩ := hD
  have HI := Lib.hid (NorW.isOn_calls d w h.core)
  rw [hoff] at HI
  clear h hoff
  go_enter Tryz.func12, Tryz.ntmps12
  go_wp2_with (go_at_call 19; refine HI.out.mono ?_; rintro e w' ⟨rfl, rfl⟩)
  go_ret2
  exact ⟨rfl, rfl⟩
set_option maxHeartbeats 1000000 in
theorem all_nil (w : World) : Calls Tryz.prog 12 #[.pointer none] w fun e w' => e = .returned (.tuple #[.slice none 0 0, .int .i64 7]) ∧ w = w' := by
  have HI := Lib.hid (NorW.isOn_nil w)
  go_enter Tryz.func12, Tryz.ntmps12
  go_wp2_with (go_at_call 19; refine HI.out.mono ?_; rintro e w' ⟨rfl, rfl⟩)
  go_ret2
  exact ⟨rfl, rfl⟩
/-- What All answers of a device that is on. -/
def AllE (n z : Nat) (row : Nat → List Int) (w : World) (e : Ending) (w' : World) : Prop :=
  ∃ g, e = .returned (.tuple #[.slice (some ⟨g, 0, none⟩) n n, .int .i64 0]) ∧ Sects w' g n z row n ∧ Below w.heap.size w w'
set_option maxRecDepth 100000 in
set_option maxHeartbeats 4000000 in
theorem all_on (w : World) (hD : NorS.Dev w lo hi d n z K s) (hon : s.on = true) (hn : n ≤ 64) (hz : z ≤ 4096) (hN : PlaceH.Nowhere w) : Calls Tryz.prog 12 #[.pointer (some ⟨d, 0, none⟩)] w (AllE n z s.row w) := by
  have HD := Lib.hid hD
  have HN := Lib.hid hN
  obtain ⟨_, _, _, _, _, _, _, _, _, h⟩ := hD
  have HI := Lib.hid (NorW.isOn_calls d w h.core)
  have HG := Lib.hid (NorW.geometry_calls d w h.core)
  have HR : Hid (∀ j, j < n → (s.row j).length = z) := Lib.hid fun j hj => (h.fits.row j hj).1
  rw [hon] at HI
  have HON := Lib.hid hon
  clear h hon hN
  have HM := Lib.hid (made n hn)
  go_enter Tryz.func12, Tryz.ntmps12
  go_wp2_with (go_at_call 19; refine HI.out.mono ?_; rintro e w' ⟨rfl, rfl⟩)
  refine HG.out.mono ?_
  rintro e w1 ⟨rfl, hb1⟩
  have HB1 := Lib.hid hb1
  clear hb1
  have hmk := HM.out
  go_wp2_with fail
  have hb2 : Below w.heap.size w ((w1.alloc (.cells #[.int .i64 n, .int .i64 z] 28)).alloc (.cells (madeCells (Value.agg #[.int .i64 0, .int .i64 0, .bool false, .slice none 0 0]).cells (n * 4)) 52)) := (HB1.out.alloc HB1.out.size _).alloc (by have := HB1.out.size; simp; omega) _
  have hg2 : Blk ((w1.alloc (.cells #[.int .i64 n, .int .i64 z] 28)).alloc (.cells (madeCells (Value.agg #[.int .i64 0, .int .i64 0, .bool false, .slice none 0 0]).cells (n * 4)) 52)) w1.heap.size #[.int .i64 n, .int .i64 z] 28 := (Blk.new_ w1 _ _).alloc _
  have hs2 : Sects ((w1.alloc (.cells #[.int .i64 n, .int .i64 z] 28)).alloc (.cells (madeCells (Value.agg #[.int .i64 0, .int .i64 0, .bool false, .slice none 0 0]).cells (n * 4)) 52)) (w1.heap.size + 1) n z s.row 0 := by
    refine ⟨⟨_, ?_, size_madeCells (Value.agg #[.int .i64 0, .int .i64 0, .bool false, .slice none 0 0]).cells (n * 4)⟩, fun j hj => by omega⟩
    have := Blk.new_ (w1.alloc (.cells #[.int .i64 n, .int .i64 z] 28)) (madeCells (Value.agg #[.int .i64 0, .int .i64 0, .bool false, .slice none 0 0]).cells (n * 4)) 52
    simpa using this
  have HB2 := Lib.hid hb2
  have HG2 := Lib.hid hg2
  have HS2 := Lib.hid hs2
  clear hb2 hg2 hs2 hmk
  go_loopw [19] (fun i wr => ∃ k : Nat, k ≤ n ∧ i = .int .i64 k ∧ Sects wr (w1.heap.size + 1) n z s.row k ∧ Blk wr w1.heap.size #[.int .i64 n, .int .i64 z] 28 ∧ Below w.heap.size w wr) (fun i _ => n - (intOf i).toNat)
  case atStart => exact ⟨0, Nat.zero_le _, rfl, HS2.out, HG2.out, HB2.out⟩
  case round =>
    obtain ⟨k, hk, rfl, hsc, hgb, hbel⟩ := hrel
    have HSC := Lib.hid hsc
    have HGB := Lib.hid hgb
    have HBL := Lib.hid hbel
    have hgl := hgb.lt
    have hsl := hsc.lt
    have hw1 := HB1.out.size
    clear hsc hgb hbel HB2 HG2 HS2
    by_cases hlt : k < n
    · have HDR := Lib.hid (NorJ.dev_below HD.out HBL.out)
      have hxy : ∀ w, Calls Tryz.prog 7 #[.int .i64 (k : Int), .int .i64 0] w fun e w' => ∃ x y, e = .returned (.complex .f64 x y) ∧ (rt x = true ∧ rt y = true ∧ nm x = (k : Int) ∧ nm y = ((0 : Nat) : Int)) ∧ w = w' := fun w => by
        have := NorDo.of_num (k : Int) 0 w
        rw [NorSm.pl_nat k (by omega)] at this
        exact this
      have HOF := Lib.hid hxy
      have RD : Hid (∀ v, Below wr.heap.size wr v → Below wr.heap.size wr v ∧ v.cell? ⟨w1.heap.size, 1, none⟩ = some (.int .i64 z)) := Lib.hid fun v hv => ⟨hv, (HGB.out.below hv).cell 1⟩
      clear hxy
      go_wp2_with fail
      refine wp_region_noPanic ?_
      go_region_held3 (fun v => Below wr.heap.size wr v ∧ v.cell? ⟨w1.heap.size, 1, none⟩ = some (.int .i64 z))
        (first
          | exact RD.out _ (Below.refl _ _)
          | exact RD.out _ (by assumption)
          | exact RD.out _ (NorH.below_drewN (Below.refl _ _) _)
          | exact RD.out _ (Below.drew (by assumption))
          | exact RD.out _ (Below.drew (Below.refl _ _))
          | exact RD.out _ (And.left (by assumption)))
        (first
          | (go_at_call 7; refine (HOF.out _).mono ?_; rintro e w' ⟨x, y, rfl, hxy, rfl⟩; have HXY := Lib.hid hxy; clear hxy)
          | (go_at_call 34; refine (NorSm.dread_all _ (NorJ.dev_below HDR.out (And.left (by assumption))) x y k hlt HXY.out.1 HXY.out.2.1 HXY.out.2.2.1 HXY.out.2.2.2 HON.out).mono ?_; rintro e w4 ⟨g1, cap1, rfl, ho1, hb4⟩; have hn4 : Below wr.heap.size wr w4 := keeps (And.left (by assumption)) hb4; have HO4 := Lib.hid ho1; clear ho1 hb4))
      refine NoPanic.normal ?_
      rename_i hH
      have HH : Hid (Below wr.heap.size wr w4) := Lib.hid hH.1
      clear hH hn4
      have HB4 := Lib.hid (keeps HBL.out HH.out)
      have HG4 := Lib.hid (HGB.out.below HH.out)
      have HS4 := Lib.hid (HSC.out.below HH.out)
      have hl4 := HS4.out.lt
      have hz4 := HB4.out.size
      have hsl : (s.row k).length = z := HR.out k hlt
      have OFC := Lib.hid (ScanZo.of_calls n z (some ⟨g1, 0, none⟩) z cap1 k (s.row k) w4 HO4.out.bs HO4.out.capLe (by omega) (by omega) (HN.out.below HB4.out))
      clear hsl
      obtain ⟨cc, hcc⟩ : ∃ x, cl n z (s.row k) = x := ⟨_, rfl⟩
      obtain ⟨ee, hee⟩ : ∃ x, en n z (s.row k) (k : Int) = x := ⟨_, rfl⟩
      obtain ⟨ff, hff⟩ : ∃ x, fu n z (s.row k) (k : Int) = x := ⟨_, rfl⟩
      have HSE : Hid (∀ v, secCells n z (s.row k) k v = [.int .i64 cc, .int .i64 ee, .bool ff, v]) := Lib.hid fun v => by unfold secCells; rw [hcc, hee, hff]
      rw [hcc, hee, hff] at OFC
      clear hcc hee hff
      go_wp2_with (first
        | ((with_reducible refine pick (some 36) ?_); refine load_blk rfl 28 (.tmp 4) rfl w1.heap.size rfl 28 #[.int .i64 n, .int .i64 z] _ HG4.out Tryz.underlying28 rfl info_geo ?_)
        | (go_at_call 43; refine OFC.out.mono ?_; intro e w5 hm5; obtain ⟨v5, rfl, ho5, hb5⟩ := hm5; obtain ⟨D5, N5, p5, rfl⟩ := own_slice ho5; have HS5 := Lib.hid (HS4.out.below hb5); have HB5 := Lib.hid (keeps HB4.out hb5); have HG5 := Lib.hid (HG4.out.below hb5); have HO5 : Hid (w5.ownsRow (w1.heap.size + 1 + 1) 103 11 (.slice D5 N5 p5) (fo n z (s.row k) k).length (flat (fo n z (s.row k) k))) := Lib.hid (ho5.mono (by omega)); have hl5 := hb5.size; clear ho5 hb5)
        | ((with_reducible refine pick none ?_); refine wpList_store_mid rfl 52 (.tmp 40) _ rfl (w1.heap.size + 1) (k * 4) #[.int .i64 cc, .int .i64 ee, .bool ff, .slice D5 N5 p5] rfl rfl (HS5.out.there_ hlt) rfl (by simp [Value.oneCell']) ?_))
      have hst := HS5.out.store hlt (.slice D5 N5 p5) HO5.out
      rw [HSE.out] at hst
      have HST := Lib.hid hst
      have HGE := Lib.hid (blk_grown HG5.out hst.2 (fun e => by injection e with e; omega))
      have HBE := Lib.hid (HB5.out.grown hst.2 HB5.out.size (fun q e => by injection e with e; omega))
      clear hst
      go_roundw
      case rel => exact ⟨k + 1, by omega, by go_num, HST.out.1, HGE.out, HBE.out⟩
      case measure => simp [intOf]; omega
    · obtain rfl : k = n := by omega
      go_wp2_with fail
      go_ret2
      exact ⟨_, rfl, HSC.out, HBL.out⟩
end
end Go.Proofs.YthbafcihmcjchaaGreatDoor.ScanAl

/- Do, whatever its kind: one contract. -/
namespace Go.Proofs.YthbafcihmcjchaaGreatDoor.NorDt
set_option linter.unusedVariables false
open Go.RowKit
open Go.Proofs.YthbafcihmcjchaaGreatDoor.Byte Go.Proofs.YthbafcihmcjchaaGreatDoor.NorD Go.Proofs.YthbafcihmcjchaaGreatDoor.NorM Go.Proofs.YthbafcihmcjchaaGreatDoor.NorS Go.Proofs.YthbafcihmcjchaaGreatDoor.NorP Go.Proofs.YthbafcihmcjchaaGreatDoor.NorK Go.Proofs.YthbafcihmcjchaaGreatDoor.NorDo Go.Proofs.YthbafcihmcjchaaGreatDoor.NorDp Go.Proofs.YthbafcihmcjchaaGreatDoor.NorDq Go.Proofs.YthbafcihmcjchaaGreatDoor.NorDr Go.Proofs.YthbafcihmcjchaaGreatDoor.NorDs

/-- What an operation makes of a state. -/
def St.step (s : St) (n z : Nat) (kd se off nn kk mm : Int) (bs : List Int) : St :=
  if kd = 0 then (s.program n z (pl se off).1 (pl se off).2 bs).2
  else if kd = 1 then (s.erase n z se).2
  else if kd = 2 then s
  else if kd = 3 then s.setCut nn kk mm
  else if kd = 4 then s.turn
  else if kd = 5 then s.up
  else s.spoil n se
section
variable {lo hi d rl n z K : Nat} {D R : St}
theorem dp_more {w w' : World} {e : Ending} {P Q : Prop} {K' : Nat} (h : DoPost w lo hi d rl n z K D R P e w') (hK : K ≤ K') (hb : K' ≤ 1000000) (hQ : Q → P) : DoPost w lo hi d rl n z K' D R Q e w' := by
  obtain ⟨ok, v', h1, h2, h3, h4, h5⟩ := h
  exact ⟨ok, v', h1, fun q => h2 (hQ q), dev_more h3 hK hb, h4.more hK hb, h5⟩
theorem do_calls (w : World) (v : Value) (hD : Dev w lo hi d n z K D) (hR : Ref w rl n z K R v) (hh : hi ≤ rl) (hl : rl ≤ w.heap.size) (hK : K + 3 ≤ 1000000) (kd se off : Int) (B : Option Addr) (bl bq : Nat) (nn kk mm : Int) (bs : List Int) (hB : Bs w B bl bs) (hBA : B = none → bq = 0) (hbl : bl ≤ 100000) (hBlo : 0 < bl → ∀ b o, B = some ⟨b, o, none⟩ → b < lo)
    (hn0 : -9223372036854775808 ≤ nn) (hn : nn ≤ 9223372036854775807) (hk : kk ≤ 9223372036854775807) (hm0 : 0 ≤ mm) (hm1 : mm ≤ 255) :
    Calls Tryz.prog 11 #[.pointer (some ⟨d, 0, none⟩), v, .agg #[.int .i64 kd, .int .i64 se, .int .i64 off, .slice B bl bq, .int .i64 nn, .int .i64 kk, .int .u8 mm]] w
      (DoPost w lo hi d rl n z (K + 2) (St.step D n z kd se off nn kk mm bs) (St.step R n z kd se off nn kk mm bs) (D = R)) := by
  unfold St.step
  by_cases h0 : kd = 0
  · subst h0
    rw [if_pos rfl, if_pos rfl]
    exact (do_program w v hD hR hh hl hK se off B bl bq nn kk mm bs hB hBA hbl hBlo).mono fun e w' h => dp_more h (by omega) (by omega) id
  rw [if_neg h0, if_neg h0]
  by_cases h1 : kd = 1
  · subst h1
    rw [if_pos rfl, if_pos rfl]
    exact do_erase w v hD hR hh hl hK se off B bl bq nn kk mm
  rw [if_neg h1, if_neg h1]
  by_cases h2 : kd = 2
  · subst h2
    rw [if_pos rfl, if_pos rfl]
    cases hi' : inside n z (pl se off).1 (pl se off).2 nn with
    | false =>
      cases hd : D.on with
      | false =>
        cases hr : R.on with
        | false => exact (do_read_off_off w v hD hR hh hl hK se off B bl bq nn kk mm hd hr hn0 hn).mono fun e w' h => dp_more h (by omega) (by omega) id
        | true => exact (do_read_off_arg w v hD hR hh hl hK se off B bl bq nn kk mm hd hr hi' hn0 hn).mono fun e w' h => dp_more h (by omega) (by omega) id
      | true =>
        cases hr : R.on with
        | false => exact (do_read_arg_off w v hD hR hh hl hK se off B bl bq nn kk mm hd hr hi' hn0 hn).mono fun e w' h => dp_more h (by omega) (by omega) id
        | true => exact (do_read_arg_arg w v hD hR hh hl hK se off B bl bq nn kk mm hd hr hi' hn0 hn).mono fun e w' h => dp_more h (by omega) (by omega) id
    | true =>
      have hp : 0 ≤ nn := by
        unfold inside at hi'
        rw [decide_eq_true_eq] at hi'
        exact hi'.1
      obtain ⟨m, rfl⟩ := Int.eq_ofNat_of_zero_le hp
      cases hd : D.on with
      | false =>
        cases hr : R.on with
        | false => exact (do_read_off_off w v hD hR hh hl hK se off B bl bq m kk mm hd hr hn0 hn).mono fun e w' h => dp_more h (by omega) (by omega) id
        | true => exact (do_read_off_ok w v hD hR hh hl hK se off B bl bq m kk mm hd hr hi').mono fun e w' h => dp_more h (by omega) (by omega) id
      | true =>
        cases hr : R.on with
        | false => exact (do_read_ok_off w v hD hR hh hl hK se off B bl bq m kk mm hd hr hi').mono fun e w' h => dp_more h (by omega) (by omega) id
        | true => exact (do_read_ok_ok w v hD hR hh hl hK se off B bl bq m kk mm hd hr hi').mono fun e w' h => dp_more h (by omega) (by omega) id
  rw [if_neg h2, if_neg h2]
  by_cases h3 : kd = 3
  · subst h3
    rw [if_pos rfl, if_pos rfl]
    exact (do_cut w v hD hR hh hl hK se off B bl bq nn kk mm hn hk hm0 hm1).mono fun e w' h => dp_more h (by omega) (by omega) fun _ => trivial
  rw [if_neg h3, if_neg h3]
  by_cases h4 : kd = 4
  · subst h4
    rw [if_pos rfl, if_pos rfl]
    exact (do_off w v hD hR hh hl hK se off B bl bq nn kk mm).mono fun e w' h => dp_more h (by omega) (by omega) fun _ => trivial
  rw [if_neg h4, if_neg h4]
  by_cases h5 : kd = 5
  · subst h5
    rw [if_pos rfl, if_pos rfl]
    exact (do_on w v hD hR hh hl hK se off B bl bq nn kk mm).mono fun e w' h => dp_more h (by omega) (by omega) fun _ => trivial
  rw [if_neg h5, if_neg h5]
  exact (do_spoil w v hD hR hh hl hK se off B bl bq nn kk mm kd (by omega)).mono fun e w' h => dp_more h (by omega) (by omega) fun _ => trivial
end
end Go.Proofs.YthbafcihmcjchaaGreatDoor.NorDt
