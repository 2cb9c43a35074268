/- Merged: NorR NorU NorV. -/
import Derived.StillTailTactics
import Derived.Deep.RegionHeld3
import Derived.IntWalk
import Derived.Test.YthbafcihmcjchaaGreatDoorNorP
import Derived.Deep.DeepFit
/- The contracts of the document's device: Spoil, the act. -/
namespace Go.Proofs.YthbafcihmcjchaaGreatDoor.NorR
set_option linter.unusedVariables false
set_option linter.unusedSimpArgs false
open Go.RowKit
open Go.Proofs.YthbafcihmcjchaaGreatDoor.Byte Go.Proofs.YthbafcihmcjchaaGreatDoor.NorD Go.Proofs.YthbafcihmcjchaaGreatDoor.NorM Go.Proofs.YthbafcihmcjchaaGreatDoor.NorS Go.Proofs.YthbafcihmcjchaaGreatDoor.NorB Go.Proofs.YthbafcihmcjchaaGreatDoor.NorP Go.Proofs.YthbafcihmcjchaaGreatDoor.PlaceM Go.Proofs.YthbafcihmcjchaaGreatDoor.PlaceV

theorem info_bool : (Tryz.prog.info? 4).map (fun i => (i.zero, i.size, i.bytes)) = some (some (.bool false), 1, 1) := by kernel_rfl
theorem info_int : (Tryz.prog.info? 3).map (fun i => (i.zero, i.size, i.bytes)) = some (some (.int .i64 0), 1, 8) := by kernel_rfl
theorem info_bytes : (Tryz.prog.info? 38).map (fun i => (i.zero, i.size, i.bytes)) = some (some (.slice none 0 0), 1, 24) := by kernel_rfl
theorem info_u8 : (Tryz.prog.info? 5).map (fun i => (i.zero, i.size, i.bytes)) = some (some (.int .u8 0), 1, 1) := by kernel_rfl

/-- The document's device's struct in memory. -/
def rc (n z db dc wb wc bb bc : Nat) (off : Bool) (offs acts : Int) (cuts : Bool) (left whole mask : Int) : Array Value :=
  #[.int .i64 n, .int .i64 z, .slice (some ⟨db, 0, none⟩) n dc, .slice (some ⟨wb, 0, none⟩) n wc, .slice (some ⟨bb, 0, none⟩) n bc, .bool off, .int .i64 offs, .int .i64 acts, .bool cuts, .int .i64 left, .int .i64 whole, .int .u8 mask]
theorem rc_one (n z db dc wb wc bb bc : Nat) (off : Bool) (offs acts : Int) (cuts : Bool) (left whole mask : Int) : (rc n z db dc wb wc bb bc off offs acts cuts left whole mask).all (·.oneCell') = true := by simp [rc, Value.oneCell']
theorem info_ref : (Tryz.prog.info? 33).map (·.size) = some 12 := by kernel_rfl
def zeroRef : Array Value := #[.int .i64 0, .int .i64 0, .slice none 0 0, .slice none 0 0, .slice none 0 0, .bool false, .int .i64 0, .int .i64 0, .bool false, .int .i64 0, .int .i64 0, .int .u8 0]
section
variable {P : Program}
/-- A whole block is written. -/
theorem wpList_store_blk {ops : Array Oper} {rest : List Oper} {o : Oper} {a : Act} {w : World} {Q : Exit → Act → World → Prop} (hgd : o.guard = none) (ty : TypeId) (x y : Operand) (ho : o.op = .store ty x y)
    (g : Nat) (cells : Array Value) (hx : a.eval x = .pointer (some ⟨g, 0, none⟩)) (hy : a.eval y = .agg cells)
    (t : TypeId) (old : Array Value) (hg : Blk w g t old) (hi : (P.info? ty).map (·.size) = some cells.size) (hold : old.size = cells.size) (h1 : cells.all (·.oneCell') = true)
    (h : ∀ w', Blk w' g t cells → Chg (fun q => q = g) w w' → wpList P ops Q rest (a.put o.dst undef) w') : wpList P ops Q (o :: rest) a w := by
  refine wpList_store_row hgd ty x y ho g cells hx hy t old hg hi hold h1 (h _ (setRow_heap w g old cells t (0, 0) hg) ⟨rfl, rfl, rfl, by simp [World.setRow], fun k _ hn => setRow_other w g k cells hn⟩)
end

/-- The world behind the box of the receiver, the result's variable, and an empty slice. -/
theorem boxed (w : World) (c zz : Array Value) (t e : TypeId) : Below w.heap.size w (((w.alloc (.cells c t)).alloc (.cells zz t)).alloc (.cells #[] e)) ∧ Blk (((w.alloc (.cells c t)).alloc (.cells zz t)).alloc (.cells #[] e)) w.heap.size t c ∧ Blk (((w.alloc (.cells c t)).alloc (.cells zz t)).alloc (.cells #[] e)) (w.heap.size + 1) t zz ∧
    (((w.alloc (.cells c t)).alloc (.cells zz t)).alloc (.cells #[] e)).ownsRow (w.heap.size + 1 + 1) e 1 (.slice (some ⟨w.heap.size + 1 + 1, 0, none⟩) 0 0) 0 [] := by
  refine ⟨(two_allocs w _ _).alloc (by simp; omega) _, ((Blk.new w _ _).alloc _).alloc _, ?_, ?_⟩
  · have := (Blk.new (w.alloc (.cells c t)) t zz).alloc (.cells #[] e)
    simpa using this
  · have := World.ownsRow_lit (base := w.heap.size + 1 + 1) (e := e) (size := 1) ((w.alloc (.cells c t)).alloc (.cells zz t)) #[] 0 (by simp) (by decide) rfl
    simpa using this
theorem boxed_grown {w w1 : World} {c zz : Array Value} {t e : TypeId} (hg : (((w.alloc (.cells c t)).alloc (.cells zz t)).alloc (.cells #[] e)).grownBy w1 (some (w.heap.size + 1 + 1))) :
    Below w.heap.size w w1 ∧ Blk w1 w.heap.size t c ∧ Blk w1 (w.heap.size + 1) t zz := by
  obtain ⟨h1, h2, h3, h4⟩ := boxed w c zz t e
  exact ⟨h1.grown hg h1.size (fun k e => by injection e with e; omega), h2.of_eq (hg.block _ h2.lt (by simp; omega)), h3.of_eq (hg.block _ h3.lt (by simp))⟩

section
variable {lo n z K : Nat} {s : St} {db wb bb : Nat} {cuts : Bool} {left whole mask : Int} {L LC : Nat → Nat}

set_option maxRecDepth 100000 in
set_option maxHeartbeats 1000000 in
theorem refSpoil_yes (w : World) (v : Value) (h : Ref w lo n z K s v) (i : Nat) (hi : i < n) (hlo : lo ≤ w.heap.size) :
    Calls Tryz.prog 41 #[v, .int .i64 i] w fun e w' => ∃ v', e = .returned v' ∧ Ref w' lo n z K { s with bad := s.bad.set i true } v' ∧ Below w.heap.size w w' := by
  obtain ⟨db, dc, wb, wc, bb, bc, cuts, left, whole, mask, L, LC, rfl, hP, hr⟩ := h
  have hf : Fits n z K { s with bad := s.bad.set i true } := by
    have := hP.fits.spoil (i : Int)
    unfold St.spoil at this
    rwa [if_pos (by omega), Int.toNat_natCast] at this
  have hg := hP.geo
  have HP := Lib.hid hP
  have HR := Lib.hid hr
  have HF := Lib.hid hf
  clear hP hr hf
  unfold refVal
  go_enter Tryz.func41, Tryz.ntmps41
  go_wp2_with (first
    | ((with_reducible refine pick (some 10) ?_); refine wpList_append_row rfl _ _ _ rfl (w.heap.size + 1 + 1) 4 Tryz.underlying31 _ 1 info_bool rfl (by omega) (w.heap.size + 1 + 1) rfl (boxed _ _ _ _ _).2.2.2 lo bb n bc _ rfl (HP.out.below (boxed _ _ _ _ _).1).bad (fun _ => rfl) hg.1 (by omega) (by simp) ?_; intro g1 cap1 w1 hrow1 hc1 hc2 hg1 hat1; have hst := boxed_grown hg1; have HB1 := Lib.hid hst.1; have S0 := Lib.hid hst.2.1; have S1 := Lib.hid hst.2.2; have kc := hrow1.cell hi; have kf := hrow1.fr i; have k4 : w1.cell? ⟨w.heap.size, 4, none⟩ = some (.slice (some ⟨bb, 0, none⟩) n bc) := S0.out.cell 4; have f4 := S0.out.frozen 4; have HROW := Lib.hid hrow1; have hge : w.heap.size + 2 ≤ g1 := (by have := hrow1.1; omega); have n1 : ¬ g1 = w.heap.size := (by omega); have n2 : ¬ w.heap.size = g1 := (by omega); clear hst hrow1 hg1 hat1)
    | ((with_reducible refine pick (some 24) ?_); refine wpList_load_row rfl _ _ rfl w.heap.size rfl 33 (rc n z db dc wb wc g1 cap1 (!s.on) s.offs s.acts cuts left whole mask) (0, 0) _ ((S0.out.far (p := ⟨g1, i, none⟩) n2 _).set_ 4 _) Tryz.underlying33 rfl info_ref ?_)
    | ((with_reducible refine pick none ?_); refine wpList_store_blk rfl 33 _ _ rfl (w.heap.size + 1) (rc n z db dc wb wc g1 cap1 (!s.on) s.offs s.acts cuts left whole mask) rfl rfl 33 _ ((S1.out.far (p := ⟨g1, i, none⟩) (by show w.heap.size + 1 ≠ g1; omega) _).far (p := ⟨w.heap.size, 4, none⟩) (by show w.heap.size + 1 ≠ w.heap.size; omega) _) info_ref rfl (rc_one _ _ _ _ _ _ _ _ _ _ _ _ _ _ _) ?_; intro w2 hb2 hg2))
  have hw2 : Chg (fun q => w.heap.size ≤ q) w1 w2 := (((Chg.refl _ w1).setCell (.inl (show w.heap.size ≤ g1 by omega)) _).setCell (.inl (Nat.le_refl w.heap.size)) _).trans (hg2.mono (fun k _ e => by rw [e]; omega))
  have hb3 : Below w.heap.size w w2 := HB1.out.trans (hw2.below HB1.out.size (fun k hk => by omega))
  have hr2 : Row w2 lo g1 4 n (fun j => .bool ((s.bad.set i true).getD j false)) := by
    have h1 := (HROW.out.set_ i (.bool true) hi).of_eq (w' := w2) ?_
    · exact (h1.congr (fun j hj => by
        rw [getD_setB _ _ _ _ (by rw [HP.out.fits.bl]; exact hi)]
        by_cases e : j = i <;> simp [e])).base (by omega)
    · rw [hg2.block g1 (by have := HROW.out.lt; simpa [World.setCell] using this) (by omega)]
      exact Below.heap_setCell _ _ _ _ n1
  exact bodyPost_ret (v := .agg (rc n z db dc wb wc g1 cap1 (!s.on) s.offs s.acts cuts left whole mask)) (results_cell_row rfl _ _ (w.heap.size + 1) 33 _ (0, 0) _ rfl hb2 Tryz.underlying33 rfl info_ref) rfl
    ⟨_, rfl, Ref.of (s := { s with bad := s.bad.set i true }) (db := db) (wb := wb) (bb := g1) (left := left) (whole := whole) (mask := mask) (cuts := cuts) (L := L) (LC := LC) rfl ⟨(HP.out.below hb3).data, (HP.out.below hb3).wear, hr2, (HP.out.below hb3).rows, HP.out.cut, HF.out, HP.out.geo, HP.out.lw, HP.out.big⟩ ⟨HR.out.1, HR.out.2.1, hc1, HR.out.2.2.2.1, HR.out.2.2.2.2.1, hc2⟩, hb3⟩
set_option maxRecDepth 100000 in
set_option maxHeartbeats 1000000 in
theorem refSpoil_no (w : World) (v : Value) (h : Ref w lo n z K s v) (se : Int) (hse : se < 0 ∨ (0 ≤ se ∧ (n : Int) ≤ se)) (hlo : lo ≤ w.heap.size) :
    Calls Tryz.prog 41 #[v, .int .i64 se] w fun e w' => ∃ v', e = .returned v' ∧ Ref w' lo n z K s v' ∧ Below w.heap.size w w' := by
  obtain ⟨db, dc, wb, wc, bb, bc, cuts, left, whole, mask, L, LC, rfl, hP, hr⟩ := h
  have hg := hP.geo
  have HP := Lib.hid hP
  have HR := Lib.hid hr
  clear hP hr
  unfold refVal
  have hlen : 0 ≤ se → decide (se < (n : Int)) = false := fun _ => by simp; omega
  rcases hse with hse | ⟨hse, hse'⟩
  case' inr => have hd := hlen hse
  all_goals clear hlen
  all_goals
   go_enter Tryz.func41, Tryz.ntmps41
   go_wp2_with (first
     | ((with_reducible refine pick (some 10) ?_); refine wpList_append_row rfl _ _ _ rfl (w.heap.size + 1 + 1) 4 Tryz.underlying31 _ 1 info_bool rfl (by omega) (w.heap.size + 1 + 1) rfl (boxed _ _ _ _ _).2.2.2 lo bb n bc _ rfl (HP.out.below (boxed _ _ _ _ _).1).bad (fun _ => rfl) hg.1 (by omega) (by simp) ?_; intro g1 cap1 w1 hrow1 hc1 hc2 hg1 hat1; have hst := boxed_grown hg1; have HB1 := Lib.hid hst.1; have S0 := Lib.hid hst.2.1; have S1 := Lib.hid hst.2.2; have k4 : w1.cell? ⟨w.heap.size, 4, none⟩ = some (.slice (some ⟨bb, 0, none⟩) n bc) := S0.out.cell 4; have f4 := S0.out.frozen 4; have HROW := Lib.hid hrow1; have hge : w.heap.size + 2 ≤ g1 := (by have := hrow1.1; omega); have n1 : ¬ g1 = w.heap.size := (by omega); have n2 : ¬ w.heap.size = g1 := (by omega); clear hst hrow1 hg1 hat1)
     | ((with_reducible refine pick (some 24) ?_); refine wpList_load_row rfl _ _ rfl w.heap.size rfl 33 (rc n z db dc wb wc g1 cap1 (!s.on) s.offs s.acts cuts left whole mask) (0, 0) _ (S0.out.set_ 4 _) Tryz.underlying33 rfl info_ref ?_)
     | ((with_reducible refine pick none ?_); refine wpList_store_blk rfl 33 _ _ rfl (w.heap.size + 1) (rc n z db dc wb wc g1 cap1 (!s.on) s.offs s.acts cuts left whole mask) rfl rfl 33 _ (S1.out.far (p := ⟨w.heap.size, 4, none⟩) (by show w.heap.size + 1 ≠ w.heap.size; omega) _) info_ref rfl (rc_one _ _ _ _ _ _ _ _ _ _ _ _ _ _ _) ?_; intro w2 hb2 hg2))
   have hw2 : Chg (fun q => w.heap.size ≤ q) w1 w2 := ((Chg.refl _ w1).setCell (.inl (Nat.le_refl w.heap.size)) _).trans (hg2.mono (fun k _ e => by rw [e]; omega))
   have hb3 : Below w.heap.size w w2 := HB1.out.trans (hw2.below HB1.out.size (fun k hk => by omega))
   have hr2 : Row w2 lo g1 4 n (fun j => .bool (s.bad.getD j false)) := by
     refine (HROW.out.of_eq (w' := w2) ?_).base (by omega)
     rw [hg2.block g1 (by have := HROW.out.lt; simpa [World.setCell] using this) (by omega)]
     exact Below.heap_setCell _ _ _ _ n1
   exact bodyPost_ret (v := .agg (rc n z db dc wb wc g1 cap1 (!s.on) s.offs s.acts cuts left whole mask)) (results_cell_row rfl _ _ (w.heap.size + 1) 33 _ (0, 0) _ rfl hb2 Tryz.underlying33 rfl info_ref) rfl
     ⟨_, rfl, Ref.of (db := db) (wb := wb) (bb := g1) (left := left) (whole := whole) (mask := mask) (cuts := cuts) (L := L) (LC := LC) rfl ⟨(HP.out.below hb3).data, (HP.out.below hb3).wear, hr2, (HP.out.below hb3).rows, HP.out.cut, HP.out.fits, HP.out.geo, HP.out.lw, HP.out.big⟩ ⟨HR.out.1, HR.out.2.1, hc1, HR.out.2.2.2.1, HR.out.2.2.2.2.1, hc2⟩, hb3⟩
theorem refSpoil_calls (w : World) (v : Value) (h : Ref w lo n z K s v) (se : Int) (hlo : lo ≤ w.heap.size) :
    Calls Tryz.prog 41 #[v, .int .i64 se] w fun e w' => ∃ v', e = .returned v' ∧ Ref w' lo n z K (s.spoil n se) v' ∧ Below w.heap.size w w' := by
  by_cases hin : 0 ≤ se ∧ se < (n : Int)
  · obtain ⟨i, rfl⟩ := Int.eq_ofNat_of_zero_le hin.1
    have e1 : s.spoil n (i : Int) = { s with bad := s.bad.set i true } := by
      unfold St.spoil
      rw [if_pos hin, Int.toNat_natCast]
    rw [e1]
    exact refSpoil_yes w v h i (by omega) hlo
  · have e1 : s.spoil n se = s := by
      unfold St.spoil
      rw [if_neg hin]
    rw [e1]
    exact refSpoil_no w v h se (by omega) hlo
end
end Go.Proofs.YthbafcihmcjchaaGreatDoor.NorR

/- The contract of the document's act. -/
namespace Go.Proofs.YthbafcihmcjchaaGreatDoor.NorU
set_option linter.unusedVariables false
set_option linter.unusedSimpArgs false
open Go.RowKit
open Go.Proofs.YthbafcihmcjchaaGreatDoor.Byte Go.Proofs.YthbafcihmcjchaaGreatDoor.NorD Go.Proofs.YthbafcihmcjchaaGreatDoor.NorM Go.Proofs.YthbafcihmcjchaaGreatDoor.NorS Go.Proofs.YthbafcihmcjchaaGreatDoor.NorB Go.Proofs.YthbafcihmcjchaaGreatDoor.NorP Go.Proofs.YthbafcihmcjchaaGreatDoor.NorR Go.Proofs.YthbafcihmcjchaaGreatDoor.PlaceM Go.Proofs.YthbafcihmcjchaaGreatDoor.PlaceV

/-- The bytes behind j rounds. -/
def segTo (down : Bool) (c : Option (Int × Int)) (off j : Nat) (b xs : List Int) : List Int :=
  xs.mapIdx fun k x => if off ≤ k ∧ k < off + j then bt x (b.getD (k - off) 0) (mk c (k - off)) down else x
theorem segTo_zero (down : Bool) (c : Option (Int × Int)) (off : Nat) (b xs : List Int) : segTo down c off 0 b xs = xs := mapIdx_same _ _ fun i h => by
  rw [if_neg (by omega)]
theorem segTo_all (down : Bool) (c : Option (Int × Int)) (off : Nat) (b xs : List Int) : segTo down c off b.length b xs = seg down c off b xs := rfl
theorem segTo_at (down : Bool) (c : Option (Int × Int)) (off j : Nat) (b xs : List Int) (h : off + j < xs.length) : (segTo down c off j b xs).getD (off + j) 0 = xs.getD (off + j) 0 := by
  unfold segTo
  rw [getD_mapIdx _ _ _ h, if_neg (by omega)]
theorem segTo_succ (down : Bool) (c : Option (Int × Int)) (off j : Nat) (b xs : List Int) : (segTo down c off j b xs).set (off + j) (bt (xs.getD (off + j) 0) (b.getD j 0) (mk c j) down) = segTo down c off (j + 1) b xs := by
  unfold segTo
  refine set_mapIdx _ _ _ _ _ (fun h => ?_) (fun i h hne => ?_)
  · rw [if_pos (by omega), List.getD_eq_getElem?_getD, List.getElem?_eq_getElem h, Option.getD_some, Nat.add_sub_cancel_left]
  · by_cases h1 : off ≤ i ∧ i < off + j
    · rw [if_pos h1, if_pos (by omega)]
    · rw [if_neg h1, if_neg (by omega)]

theorem mk_lt {whole mask : Int} {j : Nat} (h : (j : Int) < whole) : mk (some (whole, mask)) j = 255 := by
  unfold mk
  exact if_pos h
theorem mk_eq {whole mask : Int} {j : Nat} (h : (j : Int) = whole) : mk (some (whole, mask)) j = mask := by
  unfold mk
  exact (if_neg (by omega)).trans (if_pos h)
theorem mk_gt {whole mask : Int} {j : Nat} (h : whole < (j : Int)) : mk (some (whole, mask)) j = 0 := by
  unfold mk
  exact (if_neg (by omega)).trans (if_neg (by omega))
/-- The world inside the act: the box, the result's variable, the sector's new bytes. -/
def AR (w wr : World) (g1 z cap1 : Nat) (c : Array Value) (row : List Int) : Prop :=
  Blk wr w.heap.size 33 c ∧ Blk wr (w.heap.size + 1) 33 zeroRef ∧ Ob wr (w.heap.size + 1 + 1) 5 g1 z cap1 row ∧ Below w.heap.size w wr
theorem AR.set_ {w wr : World} {g1 z cap1 : Nat} {c : Array Value} {row : List Int} (h : AR w wr g1 z cap1 c row) (k : Nat) (v : Int) (h0 : 0 ≤ v) (h1 : v ≤ 255) : AR w (wr.setCell ⟨g1, k, none⟩ (.int .u8 v)) g1 z cap1 c (row.set k v) := by
  have hp := h.2.2.1.place
  exact ⟨h.1.far (p := ⟨g1, k, none⟩) (by show w.heap.size ≠ g1; omega) _, h.2.1.far (p := ⟨g1, k, none⟩) (by show w.heap.size + 1 ≠ g1; omega) _, h.2.2.1.set_ k v h0 h1, h.2.2.2.setCell (p := ⟨g1, k, none⟩) (by show w.heap.size ≤ g1; omega) _⟩
theorem AR.drew {w wr : World} {g1 z cap1 : Nat} {c : Array Value} {row : List Int} (h : AR w wr g1 z cap1 c row) : AR w wr.drew g1 z cap1 c row := ⟨h.1, h.2.1, h.2.2.1, h.2.2.2.drew⟩
theorem AR.core {w wr : World} {g1 z cap1 : Nat} {c : Array Value} {row : List Int} (h : AR w wr g1 z cap1 c row) (k : Nat) (v : Value) : AR w (wr.setCell ⟨w.heap.size, k, none⟩ v) g1 z cap1 (c.setIfInBounds k v) row := by
  have hp := h.2.2.1.place
  exact ⟨h.1.set_ k v, h.2.1.far (p := ⟨w.heap.size, k, none⟩) (by show w.heap.size + 1 ≠ w.heap.size; omega) _, h.2.2.1.chg ((Chg.refl _ wr).own k v) (by show ¬ g1 = w.heap.size; omega), h.2.2.2.setCell (p := ⟨w.heap.size, k, none⟩) (Nat.le_refl _) _⟩
/-- Behind an append to a fresh row. -/
theorem AR.grown {w wr w2 : World} {g1 z cap1 : Nat} {c : Array Value} {row : List Int} {o : Obj} (h : AR w wr g1 z cap1 c row) (hg : (wr.alloc o).grownBy w2 (some wr.heap.size)) : AR w w2 g1 z cap1 c row := by
  have hp := h.2.2.1.place
  have hc : Chg (fun _ => False) wr w2 := ((Chg.refl _ wr).alloc o).then_ (Chg.of_grown (S := fun q => q = wr.heap.size) hg (fun k e => .inl (Option.some.inj e).symm)) (fun k hk e => by omega)
  exact ⟨h.1.chg hc (fun h => h), h.2.1.chg hc (fun h => h), h.2.2.1.chg hc (fun h => h), h.2.2.2.trans (hc.below h.2.2.2.size (fun _ _ h => h))⟩
theorem AR.far {w wr : World} {g1 z cap1 : Nat} {c : Array Value} {row : List Int} (h : AR w wr g1 z cap1 c row) {g : Nat} (hg : w.heap.size + 1 < g) (hg1 : g ≠ g1) (k : Nat) (v : Value) : AR w (wr.setCell ⟨g, k, none⟩ v) g1 z cap1 c row :=
  ⟨h.1.far (p := ⟨g, k, none⟩) (by show w.heap.size ≠ g; omega) _, h.2.1.far (p := ⟨g, k, none⟩) (by show w.heap.size + 1 ≠ g; omega) _, h.2.2.1.chg ((Chg.refl _ wr).own k v) (by show ¬ g1 = g; omega), h.2.2.2.setCell (p := ⟨g, k, none⟩) (by show w.heap.size ≤ g; omega) _⟩
theorem results_tmp_row {P : Program} {fn : Func} {u p : Tmp} {ty : TypeId} (h : fn.results = #[.tmp u, .cell p ty]) (tmps : Array Value) (w : World) (g : Nat) (t : TypeId) (cs : Array Value) (fr : Nat × Nat) (d : TypeDesc)
    (hp : tmps.getD p undef = .pointer (some ⟨g, 0, none⟩)) (hg : w.heap[g]? = some (.cells cs t fr)) (hu : P.underlying ty = some d) (hd : (match d with | .struct _ | .array _ _ => true | _ => false) = true) (hi : (P.info? ty).map (·.size) = some cs.size) :
    (results fn tmps).run P w = .ok (.tuple #[tmps.getD u undef, .agg cs]) w := by
  have hp' : tmps[p]?.getD undef = .pointer (some ⟨g, 0, none⟩) := by simpa using hp
  simp [results, h, hp', asAddr, run_loadVar_row w g t ty cs fr d hg hu hd hi]
theorem RefP.other {w w' : World} {lo n z K : Nat} {s : St} {db wb bb : Nat} {cuts : Bool} {left whole mask : Int} {L LC : Nat → Nat} {g : Nat} (h : RefP w lo n z K s db wb bb cuts left whole mask L LC) (hS : Blk w g 33 zeroRef) (hg : Chg (fun q => q = g) w w') : RefP w' lo n z K s db wb bb cuts left whole mask L LC := by
  have hd : db ≠ g := by
    obtain ⟨_, cs, hb, _⟩ := h.data
    exact Blk.ne_ hb hS (by decide)
  have hw : wb ≠ g := by
    obtain ⟨_, cs, hb, _⟩ := h.wear
    exact Blk.ne_ hb hS (by decide)
  have hb : bb ≠ g := by
    obtain ⟨_, cs, hb, _⟩ := h.bad
    exact Blk.ne_ hb hS (by decide)
  refine ⟨h.data.of_eq (hg.block db h.data.lt hd), h.wear.of_eq (hg.block wb h.wear.lt hw), h.bad.of_eq (hg.block bb h.bad.lt hb), fun i hi => ?_, h.cut, h.fits, h.geo, h.lw, h.big⟩
  obtain ⟨h1, h2, h3⟩ := h.rows i hi
  refine ⟨h1.chg hg (fun b o e => ?_), h2, Nat.lt_of_lt_of_le h3 hg.size⟩
  rintro rfl
  have hc := h1.2.2 0 h.geo.2.2.1
  obtain ⟨b', o', e', _, hc⟩ := hc
  rw [e] at e'
  injection e' with e'
  injection e' with e1 e2
  injection e with e
  injection e with e3 e4
  subst e1 e2 e4
  have := hS.cell 0
  rw [hc] at this
  cases this
theorem twelve {w : World} {g n z db dc wb wc bb bc : Nat} {off : Bool} {offs acts : Int} {cuts : Bool} {left whole mask : Int} (h : Blk w g 33 (rc n z db dc wb wc bb bc off offs acts cuts left whole mask)) :
    w.cell? ⟨g, 0, none⟩ = some (.int .i64 n) ∧ w.cell? ⟨g, 1, none⟩ = some (.int .i64 z) ∧ w.cell? ⟨g, 2, none⟩ = some (.slice (some ⟨db, 0, none⟩) n dc) ∧ w.cell? ⟨g, 3, none⟩ = some (.slice (some ⟨wb, 0, none⟩) n wc) ∧ w.cell? ⟨g, 4, none⟩ = some (.slice (some ⟨bb, 0, none⟩) n bc) ∧ w.cell? ⟨g, 5, none⟩ = some (.bool off) ∧
    w.cell? ⟨g, 6, none⟩ = some (.int .i64 offs) ∧ w.cell? ⟨g, 7, none⟩ = some (.int .i64 acts) ∧ w.cell? ⟨g, 8, none⟩ = some (.bool cuts) ∧ w.cell? ⟨g, 9, none⟩ = some (.int .i64 left) ∧ w.cell? ⟨g, 10, none⟩ = some (.int .i64 whole) ∧ w.cell? ⟨g, 11, none⟩ = some (.int .u8 mask) :=
  ⟨h.cell 0, h.cell 1, h.cell 2, h.cell 3, h.cell 4, h.cell 5, h.cell 6, h.cell 7, h.cell 8, h.cell 9, h.cell 10, h.cell 11⟩
theorem RefP.refit {w : World} {lo n z K : Nat} {s : St} {db wb bb : Nat} {cuts : Bool} {left whole mask : Int} {L LC : Nat → Nat} (h : RefP w lo n z K s db wb bb cuts left whole mask L LC) {K' : Nat} (hf : Fits n z K' s) (hb : K' ≤ 1000000) : RefP w lo n z K' s db wb bb cuts left whole mask L LC :=
  ⟨h.data, h.wear, h.bad, h.rows, h.cut, hf, h.geo, h.lw, hb⟩
/-- The device behind the act, in memory. -/
theorem acted {w w3 : World} {lo n z K K' : Nat} {s s' : St} {db wb bb : Nat} {cuts cuts' : Bool} {left left' whole mask : Int} {L LC : Nat → Nat} {i g1 cap1 g2 : Nat} {new : List Int} (hP : RefP w lo n z K s db wb bb cuts left whole mask L LC) (hi : i < n) (hlo : lo ≤ w.heap.size)
    (hb : Below w.heap.size w w3) (ho : Ob w3 (w.heap.size + 1 + 1) 5 g1 z cap1 new) (hr : Row w3 lo g2 38 n (fun j => if j = i then .slice (some ⟨g1, 0, none⟩) z cap1 else .slice (some ⟨L j, 0, none⟩) z (LC j)))
    (e1 : s'.data = s.data.set i new) (e2 : s'.wear = s.wear) (e3 : s'.bad = s.bad) (hc : (s'.cut = none ∧ cuts' = false) ∨ (s'.cut = some (left', whole, mask) ∧ cuts' = true)) (hl : -9223372036854775808 ≤ left' ∧ left' ≤ 9223372036854775807) (hf : Fits n z K' s') (hK : K' ≤ 1000000) :
    RefP w3 lo n z K' s' g2 wb bb cuts' left' whole mask (fun j => if j = i then g1 else L j) (fun j => if j = i then cap1 else LC j) := by
  have h3 := hP.below hb
  refine ⟨hr.congr (fun j hj => ?_), by rw [e2]; exact h3.wear, by rw [e3]; exact h3.bad, fun j hj => ?_, hc, hf, hP.geo, ⟨hP.lw.1, hP.lw.2.1, hl.1, hl.2, hP.lw.2.2.2.2⟩, hK⟩
  · by_cases e : j = i <;> simp [e]
  · unfold St.row
    rw [e1, row_set _ _ _ _ (by rw [hP.fits.dl]; exact hi)]
    by_cases e : j = i
    · simp only [e, if_true]
      have := ho.place
      exact ⟨ho.bs, ⟨by omega, (own_cap ho.2.2).1, (own_cap ho.2.2).2⟩, this.2⟩
    · simp only [e, if_false]
      exact h3.rows j hj

section
variable {lo n z K : Nat} {s : St} {db wb bb : Nat} {cuts : Bool} {left whole mask : Int} {L LC : Nat → Nat}

set_option maxRecDepth 100000 in
set_option maxHeartbeats 2000000 in
theorem refAct_none (w : World) (db dc wb wc bb bc : Nat) (left whole mask : Int) (L LC : Nat → Nat) (hP : RefP w lo n z K s db wb bb false left whole mask L LC) (hr : n ≤ dc ∧ n ≤ wc ∧ n ≤ bc ∧ dc ≤ 9223372036854775807 ∧ wc ≤ 9223372036854775807 ∧ bc ≤ 9223372036854775807) (i : Nat) (hi : i < n) (off len cb : Nat) (A : Option Addr) (bs : List Int) (down : Bool) (hb : Bs w A len bs) (hlen : len ≤ 100000) (hfit : off + len ≤ z) (hlo : lo ≤ w.heap.size) (hK : K + 1 ≤ 1000000) :
    Calls Tryz.prog 30 #[refVal n z s db dc wb wc bb bc false left whole mask, .int .i64 i, .int .i64 off, .slice A len cb, .bool down] w
      fun e w' => ∃ v', e = .returned (.tuple #[.int .i64 0, v']) ∧ Ref w' lo n z (K + 1) { s with data := s.data.set i (seg down none off bs (s.row i)), cut := none, acts := s.acts + 1 } v' ∧ Below w.heap.size w w' := by
  have hg := hP.geo
  have hab := hP.fits.ab
  have hrow := hP.rows i hi
  have hdata := hP.data.cell hi
  have hmb := hP.lw
  have HP := Lib.hid hP
  have HR := Lib.hid hr
  have HB := Lib.hid hb
  have HROW0 := Lib.hid hrow.1
  have hdc : n ≤ dc := hr.1
  have hlz : 0 < z := hg.2.2.1
  clear hP hr hb hrow
  unfold refVal
  have hdl : db < w.heap.size := HP.out.data.lt
  have hdl1 : db < w.heap.size + 1 := by omega
  have hdl2 : db < w.heap.size + 1 + 1 := by omega
  go_enter Tryz.func30, Tryz.ntmps30
  go_wp2_with ((with_reducible refine pick (some 24) ?_); refine wpList_append_bytes rfl _ _ _ rfl (w.heap.size + 1 + 1) 5 Tryz.underlying38 info_u8 (w.heap.size + 1 + 1) 0 0 [] rfl ⟨rfl, (by simp), (boxed _ _ _ _ _).2.2.2⟩ (some ⟨L i, 0, none⟩) z (LC i) (s.row i) rfl (HROW0.out.below (boxed _ _ _ _ _).1) (fun e => by cases e) z (by omega) (s.row i) rfl (by omega) (by simp) ?_; intro g1 cap1 w1 ho1 hg1 hat1; have hst := boxed_grown hg1; have HB1 := Lib.hid hst.1; have S0 := Lib.hid hst.2.1; have S1 := Lib.hid hst.2.2; have HO := Lib.hid ho1; have hge : w.heap.size + 2 ≤ g1 := (by have := ho1.place; omega); have k7 : w1.cell? ⟨w.heap.size, 7, none⟩ = some (.int .i64 s.acts) := S0.out.cell 7; have k8 : w1.cell? ⟨w.heap.size, 8, none⟩ = some (.bool false) := S0.out.cell 8; have k9 : w1.cell? ⟨w.heap.size, 9, none⟩ = some (.int .i64 left) := S0.out.cell 9; have f7 := S0.out.frozen 7; have f9 := S0.out.frozen 9; clear hst ho1 hg1 hat1)
  have HA0 : Hid (AR w _ g1 z cap1 (rc n z db dc wb wc bb bc (!s.on) s.offs (s.acts + 1) false left whole mask) (s.row i)) := (AR.core ⟨S0.out, S1.out, HO.out, HB1.out⟩ 7 _)
  clear k7 k8 k9 f7 f9 S0 S1 HO HB1
  go_loopw [14, 15, 49] (fun _ _ q wr => ∃ j : Nat, j ≤ len ∧ q = .int .i64 j ∧ AR w wr g1 z cap1 (rc n z db dc wb wc bb bc (!s.on) s.offs (s.acts + 1) false left whole mask) (segTo down none off j bs (s.row i))) (fun _ _ q _ => len - (intOf q).toNat)
  case atStart => exact ⟨0, by omega, rfl, by rw [segTo_zero]; exact HA0.out⟩
  case round =>
    clear HA0
    obtain ⟨j, hj, rfl, hA⟩ := hrel
    by_cases hlt : j < len
    · have hrl := (HP.out.fits.row i hi).1
      have kc := hA.2.2.1.cell (off + j) (by omega)
      have kf := hA.2.2.1.frozen (off + j)
      rw [segTo_at _ _ _ _ _ _ (by omega)] at kc
      have hbd := HROW0.out.bd (off + j)
      have hbw : Bs wr A len bs := HB.out.below hA.2.2.2
      obtain ⟨b, o, rfl, hbl, hbc⟩ := hbw.2.2 j hlt
      have hbb := HB.out.bd j
      have HS := Lib.hid (segTo_succ down none off j bs (s.row i))
      have HAR := Lib.hid hA
      generalize hy : (s.row i).getD (off + j) 0 = y at *
      generalize hx : bs.getD j 0 = x at *
      clear hA hbw hy hx
      have v1 : IntKind.i64.wrap ((off : Int) + (j : Int)) = (off : Int) + (j : Int) := IntWalk.i64_in _ (by omega)
      have v2 : (0 : Int) ≤ (off : Int) + (j : Int) := by omega
      have v3 : (off : Int) + (j : Int) < (z : Int) := by omega
      have v4 : (0 : Int) ≤ (j : Int) := by omega
      have v5 : (j : Int) < (len : Int) := by omega
      have v6 : ((off : Int) + (j : Int)).toNat = off + j := by omega
      go_wp2_with fail
      go_still_tail 18, (by kernel_rfl)
      still_call ((bits_calls y x 255 down wr.drew hbd.1 hbd.2 hbb.1 hbb.2 (by omega) (by omega)).mono fun _ _ h => ⟨h.1, h.2.symm⟩)
      repeat still_step
      refine wpStill_nil ?_
      change wpList _ _ _ _ _ wr.drew
      clear v1 v2 v3 v4 v5 v6
      go_wp2_with fail
      go_roundw
      case rel =>
        refine ⟨j + 1, by omega, by go_num, ?_⟩
        have hv := bt_bd y x 255 down
        have h3 := AR.drew (HAR.out.set_ (off + j) (bt y x 255 down) hv.1 hv.2)
        have hs := HS.out
        rw [show mk none j = 255 from rfl] at hs
        rw [hs] at h3
        exact h3
      case measure => simp [intOf]; omega
    · obtain rfl : j = len := by omega
      have HAR := Lib.hid hA
      have k2 : wr.cell? ⟨w.heap.size, 2, none⟩ = some (.slice (some ⟨db, 0, none⟩) n dc) := hA.1.cell 2
      have l2 : w.heap.size < wr.heap.size := hA.1.lt
      have hsz := hA.2.2.2.size
      clear hA
      have HPW : Hid (RefP (wr.alloc (.cells #[] 38)) lo n z K s db wb bb false left whole mask L LC) := HP.out.below (HAR.out.2.2.2.alloc hsz _)
      have HOW := Lib.hid (World.ownsRow_lit (base := wr.heap.size) (e := 38) (size := 1) wr #[] 0 (Nat.le_refl _) (by decide) rfl)
      go_wp2_with (first
        | ((with_reducible refine pick (some 91) ?_); refine wpList_append_row rfl _ _ _ rfl wr.heap.size 38 Tryz.underlying29 _ 24 info_bytes rfl (by omega) wr.heap.size rfl HOW.out lo db n dc _ rfl HPW.out.data (fun _ => rfl) hg.1 (by omega) (by simp) ?_; intro g2 cap2 w2 hrow2 hc1 hc2 hg2 hat2; have HA2 := Lib.hid (AR.grown HAR.out hg2); have HR2 := Lib.hid hrow2; have q2 : w2.cell? ⟨w.heap.size, 2, none⟩ = some (.slice (some ⟨db, 0, none⟩) n dc) := HA2.out.1.cell 2; have f2 := HA2.out.1.frozen 2; have kg := hrow2.cell hi; have kgf := hrow2.fr i; have hge2 : wr.heap.size ≤ g2 := hrow2.1; have n1 : ¬ g2 = w.heap.size := (by omega); have n2 : ¬ w.heap.size = g2 := (by omega); clear hrow2 hg2 hat2)
        | fail)
      have hgp := HAR.out.2.2.1.place
      have hA3 : AR w ((w2.setCell ⟨g2, i, none⟩ (.slice (some ⟨g1, 0, none⟩) z cap1)).setCell ⟨w.heap.size, 2, none⟩ (.slice (some ⟨g2, 0, none⟩) n cap2)) g1 z cap1 (rc n z g2 cap2 wb wc bb bc (!s.on) s.offs (s.acts + 1) false left whole mask) (segTo down none off j bs (s.row i)) :=
        (HA2.out.far (g := g2) (by omega) (by omega) i _).core 2 _
      have hR3 : Row ((w2.setCell ⟨g2, i, none⟩ (.slice (some ⟨g1, 0, none⟩) z cap1)).setCell ⟨w.heap.size, 2, none⟩ (.slice (some ⟨g2, 0, none⟩) n cap2)) wr.heap.size g2 38 n (fun j => if j = i then .slice (some ⟨g1, 0, none⟩) z cap1 else .slice (some ⟨L j, 0, none⟩) z (LC j)) :=
        (HR2.out.set_ i _ hi).of_eq (Below.heap_setCell _ _ _ _ n1)
      have hbl := HB.out.len
      have eseg : segTo down none off j bs (s.row i) = seg down none off bs (s.row i) := by
        have := segTo_all down none off bs (s.row i)
        rwa [hbl] at this
      rw [eseg] at hA3
      clear eseg hbl
      have HA3 := Lib.hid hA3
      have HR3 := Lib.hid hR3
      clear hA3 hR3 q2 f2 kg kgf
      have hlx : lo ≤ wr.heap.size := by omega
      generalize (w2.setCell ⟨g2, i, none⟩ (.slice (some ⟨g1, 0, none⟩) z cap1)).setCell ⟨w.heap.size, 2, none⟩ (.slice (some ⟨g2, 0, none⟩) n cap2) = W3 at *
      obtain ⟨t0, t1, t2, t3, t4, t5, t6, t7, t8, t9, t10, t11⟩ := twelve HA3.out.1
      go_still_tail 2, (by kernel_rfl)
      change wpList _ _ _ _ _ W3.drew
      clear t0 t1 t2 t3 t4 t5 t6 t7 t8 t9 t10 t11
      go_wp2_with ((with_reducible refine pick none ?_); refine wpList_store_blk rfl 33 _ _ rfl (w.heap.size + 1) (rc n z g2 cap2 wb wc bb bc (!s.on) s.offs (s.acts + 1) false left whole mask) rfl rfl 33 zeroRef (show Blk W3.drew _ _ _ from HA3.out.2.1) info_ref rfl (rc_one _ _ _ _ _ _ _ _ _ _ _ _ _ _ _) ?_; intro w4 hb4 hg4)
      have hbw4 : Below w.heap.size w w4 := HA3.out.2.2.2.drew.trans (hg4.below HA3.out.2.2.2.size (fun k hk => by omega))
      have hf4 : Fits n z (K + 1) { s with data := s.data.set i (seg down none off bs (s.row i)), cut := none, acts := s.acts + 1 } := HP.out.fits.done i hi down none off bs s.on (none) s.offs (fun _ _ _ e => by cases e) ⟨HP.out.fits.ob.1, by have := HP.out.fits.ob.2; omega⟩
      have hP4 := acted (s' := { s with data := s.data.set i (seg down none off bs (s.row i)), cut := none, acts := s.acts + 1 }) (cuts' := false) (left' := left) (K' := K + 1) HP.out hi hlo hbw4 ((show Ob W3.drew _ _ _ _ _ _ from HA3.out.2.2.1).chg hg4 (by omega)) ((HR3.out.of_eq (w' := w4) (hg4.block g2 HR3.out.lt (by omega))).base hlx) rfl rfl rfl (.inl ⟨rfl, rfl⟩) (by omega) hf4 (by omega)
      refine bodyPost_ret (v := .tuple #[.int .i64 0, .agg (rc n z g2 cap2 wb wc bb bc (!s.on) s.offs (s.acts + 1) false left whole mask)]) ?_ rfl ⟨_, rfl, Ref.of rfl hP4 ⟨hc1, HR.out.2.1, HR.out.2.2.1, hc2, HR.out.2.2.2.2⟩, hbw4⟩
      exact results_tmp_row (fn := Tryz.f30) rfl _ _ (w.heap.size + 1) 33 _ (0, 0) _ rfl hb4 Tryz.underlying33 rfl info_ref

set_option maxRecDepth 100000 in
set_option maxHeartbeats 2000000 in
theorem refAct_more (w : World) (db dc wb wc bb bc : Nat) (left whole mask : Int) (L LC : Nat → Nat) (hP : RefP w lo n z K s db wb bb true left whole mask L LC) (hr : n ≤ dc ∧ n ≤ wc ∧ n ≤ bc ∧ dc ≤ 9223372036854775807 ∧ wc ≤ 9223372036854775807 ∧ bc ≤ 9223372036854775807) (i : Nat) (hi : i < n) (off len cb : Nat) (A : Option Addr) (bs : List Int) (down : Bool) (hb : Bs w A len bs) (hlen : len ≤ 100000) (hfit : off + len ≤ z) (hlo : lo ≤ w.heap.size) (hK : K + 1 ≤ 1000000) (hl0 : 0 < left) :
    Calls Tryz.prog 30 #[refVal n z s db dc wb wc bb bc true left whole mask, .int .i64 i, .int .i64 off, .slice A len cb, .bool down] w
      fun e w' => ∃ v', e = .returned (.tuple #[.int .i64 0, v']) ∧ Ref w' lo n z (K + 1) { s with data := s.data.set i (seg down none off bs (s.row i)), cut := some (left - 1, whole, mask), acts := s.acts + 1 } v' ∧ Below w.heap.size w w' := by
  have hg := hP.geo
  have hab := hP.fits.ab
  have hrow := hP.rows i hi
  have hdata := hP.data.cell hi
  have hmb := hP.lw
  have HP := Lib.hid hP
  have HR := Lib.hid hr
  have HB := Lib.hid hb
  have HROW0 := Lib.hid hrow.1
  have hl1 : (left == 0) = false := beq_eq_false_iff_ne.2 (by omega)
  have hl2 : decide (0 < left) = true := by simpa using hl0
  have hdc : n ≤ dc := hr.1
  have HWB : Hid (0 ≤ whole ∧ True) := ⟨by rcases HP.out.cut with ⟨_, h⟩ | ⟨h, _⟩; (cases h); exact (HP.out.fits.cb _ _ _ h).2.2.1, trivial⟩
  have hlz : 0 < z := hg.2.2.1
  clear hP hr hb hrow
  unfold refVal
  have hdl : db < w.heap.size := HP.out.data.lt
  have hdl1 : db < w.heap.size + 1 := by omega
  have hdl2 : db < w.heap.size + 1 + 1 := by omega
  go_enter Tryz.func30, Tryz.ntmps30
  go_wp2_with ((with_reducible refine pick (some 24) ?_); refine wpList_append_bytes rfl _ _ _ rfl (w.heap.size + 1 + 1) 5 Tryz.underlying38 info_u8 (w.heap.size + 1 + 1) 0 0 [] rfl ⟨rfl, (by simp), (boxed _ _ _ _ _).2.2.2⟩ (some ⟨L i, 0, none⟩) z (LC i) (s.row i) rfl (HROW0.out.below (boxed _ _ _ _ _).1) (fun e => by cases e) z (by omega) (s.row i) rfl (by omega) (by simp) ?_; intro g1 cap1 w1 ho1 hg1 hat1; have hst := boxed_grown hg1; have HB1 := Lib.hid hst.1; have S0 := Lib.hid hst.2.1; have S1 := Lib.hid hst.2.2; have HO := Lib.hid ho1; have hge : w.heap.size + 2 ≤ g1 := (by have := ho1.place; omega); have k7 : w1.cell? ⟨w.heap.size, 7, none⟩ = some (.int .i64 s.acts) := S0.out.cell 7; have k8 : w1.cell? ⟨w.heap.size, 8, none⟩ = some (.bool true) := S0.out.cell 8; have k9 : w1.cell? ⟨w.heap.size, 9, none⟩ = some (.int .i64 left) := S0.out.cell 9; have f7 := S0.out.frozen 7; have f9 := S0.out.frozen 9; clear hst ho1 hg1 hat1)
  have HA0 : Hid (AR w _ g1 z cap1 (rc n z db dc wb wc bb bc (!s.on) s.offs (s.acts + 1) true (left - 1) whole mask) (s.row i)) := (AR.core (AR.core ⟨S0.out, S1.out, HO.out, HB1.out⟩ 7 _) 9 _)
  clear k7 k8 k9 f7 f9 S0 S1 HO HB1
  go_loopw [14, 15, 49] (fun _ _ q wr => ∃ j : Nat, j ≤ len ∧ q = .int .i64 j ∧ AR w wr g1 z cap1 (rc n z db dc wb wc bb bc (!s.on) s.offs (s.acts + 1) true (left - 1) whole mask) (segTo down none off j bs (s.row i))) (fun _ _ q _ => len - (intOf q).toNat)
  case atStart => exact ⟨0, by omega, rfl, by rw [segTo_zero]; exact HA0.out⟩
  case round =>
    clear HA0
    obtain ⟨j, hj, rfl, hA⟩ := hrel
    by_cases hlt : j < len
    · have hrl := (HP.out.fits.row i hi).1
      have kc := hA.2.2.1.cell (off + j) (by omega)
      have kf := hA.2.2.1.frozen (off + j)
      rw [segTo_at _ _ _ _ _ _ (by omega)] at kc
      have hbd := HROW0.out.bd (off + j)
      have hbw : Bs wr A len bs := HB.out.below hA.2.2.2
      obtain ⟨b, o, rfl, hbl, hbc⟩ := hbw.2.2 j hlt
      have hbb := HB.out.bd j
      have HS := Lib.hid (segTo_succ down none off j bs (s.row i))
      have HAR := Lib.hid hA
      generalize hy : (s.row i).getD (off + j) 0 = y at *
      generalize hx : bs.getD j 0 = x at *
      clear hA hbw hy hx
      have v1 : IntKind.i64.wrap ((off : Int) + (j : Int)) = (off : Int) + (j : Int) := IntWalk.i64_in _ (by omega)
      have v2 : (0 : Int) ≤ (off : Int) + (j : Int) := by omega
      have v3 : (off : Int) + (j : Int) < (z : Int) := by omega
      have v4 : (0 : Int) ≤ (j : Int) := by omega
      have v5 : (j : Int) < (len : Int) := by omega
      have v6 : ((off : Int) + (j : Int)).toNat = off + j := by omega
      go_wp2_with fail
      go_still_tail 18, (by kernel_rfl)
      still_call ((bits_calls y x 255 down wr.drew hbd.1 hbd.2 hbb.1 hbb.2 (by omega) (by omega)).mono fun _ _ h => ⟨h.1, h.2.symm⟩)
      repeat still_step
      refine wpStill_nil ?_
      change wpList _ _ _ _ _ wr.drew
      clear v1 v2 v3 v4 v5 v6
      go_wp2_with fail
      go_roundw
      case rel =>
        refine ⟨j + 1, by omega, by go_num, ?_⟩
        have hv := bt_bd y x 255 down
        have h3 := AR.drew (HAR.out.set_ (off + j) (bt y x 255 down) hv.1 hv.2)
        have hs := HS.out
        rw [show mk none j = 255 from rfl] at hs
        rw [hs] at h3
        exact h3
      case measure => simp [intOf]; omega
    · obtain rfl : j = len := by omega
      have HAR := Lib.hid hA
      have k2 : wr.cell? ⟨w.heap.size, 2, none⟩ = some (.slice (some ⟨db, 0, none⟩) n dc) := hA.1.cell 2
      have l2 : w.heap.size < wr.heap.size := hA.1.lt
      have hsz := hA.2.2.2.size
      clear hA
      have HPW : Hid (RefP (wr.alloc (.cells #[] 38)) lo n z K s db wb bb true left whole mask L LC) := HP.out.below (HAR.out.2.2.2.alloc hsz _)
      have HOW := Lib.hid (World.ownsRow_lit (base := wr.heap.size) (e := 38) (size := 1) wr #[] 0 (Nat.le_refl _) (by decide) rfl)
      go_wp2_with (first
        | ((with_reducible refine pick (some 91) ?_); refine wpList_append_row rfl _ _ _ rfl wr.heap.size 38 Tryz.underlying29 _ 24 info_bytes rfl (by omega) wr.heap.size rfl HOW.out lo db n dc _ rfl HPW.out.data (fun _ => rfl) hg.1 (by omega) (by simp) ?_; intro g2 cap2 w2 hrow2 hc1 hc2 hg2 hat2; have HA2 := Lib.hid (AR.grown HAR.out hg2); have HR2 := Lib.hid hrow2; have q2 : w2.cell? ⟨w.heap.size, 2, none⟩ = some (.slice (some ⟨db, 0, none⟩) n dc) := HA2.out.1.cell 2; have f2 := HA2.out.1.frozen 2; have kg := hrow2.cell hi; have kgf := hrow2.fr i; have hge2 : wr.heap.size ≤ g2 := hrow2.1; have n1 : ¬ g2 = w.heap.size := (by omega); have n2 : ¬ w.heap.size = g2 := (by omega); clear hrow2 hg2 hat2)
        | fail)
      have hgp := HAR.out.2.2.1.place
      have hA3 : AR w ((w2.setCell ⟨g2, i, none⟩ (.slice (some ⟨g1, 0, none⟩) z cap1)).setCell ⟨w.heap.size, 2, none⟩ (.slice (some ⟨g2, 0, none⟩) n cap2)) g1 z cap1 (rc n z g2 cap2 wb wc bb bc (!s.on) s.offs (s.acts + 1) true (left - 1) whole mask) (segTo down none off j bs (s.row i)) :=
        (HA2.out.far (g := g2) (by omega) (by omega) i _).core 2 _
      have hR3 : Row ((w2.setCell ⟨g2, i, none⟩ (.slice (some ⟨g1, 0, none⟩) z cap1)).setCell ⟨w.heap.size, 2, none⟩ (.slice (some ⟨g2, 0, none⟩) n cap2)) wr.heap.size g2 38 n (fun j => if j = i then .slice (some ⟨g1, 0, none⟩) z cap1 else .slice (some ⟨L j, 0, none⟩) z (LC j)) :=
        (HR2.out.set_ i _ hi).of_eq (Below.heap_setCell _ _ _ _ n1)
      have hbl := HB.out.len
      have eseg : segTo down none off j bs (s.row i) = seg down none off bs (s.row i) := by
        have := segTo_all down none off bs (s.row i)
        rwa [hbl] at this
      rw [eseg] at hA3
      clear eseg hbl
      have HA3 := Lib.hid hA3
      have HR3 := Lib.hid hR3
      clear hA3 hR3 q2 f2 kg kgf
      have hlx : lo ≤ wr.heap.size := by omega
      generalize (w2.setCell ⟨g2, i, none⟩ (.slice (some ⟨g1, 0, none⟩) z cap1)).setCell ⟨w.heap.size, 2, none⟩ (.slice (some ⟨g2, 0, none⟩) n cap2) = W3 at *
      obtain ⟨t0, t1, t2, t3, t4, t5, t6, t7, t8, t9, t10, t11⟩ := twelve HA3.out.1
      go_still_tail 2, (by kernel_rfl)
      change wpList _ _ _ _ _ W3.drew
      clear t0 t1 t2 t3 t4 t5 t6 t7 t8 t9 t10 t11
      go_wp2_with ((with_reducible refine pick none ?_); refine wpList_store_blk rfl 33 _ _ rfl (w.heap.size + 1) (rc n z g2 cap2 wb wc bb bc (!s.on) s.offs (s.acts + 1) true (left - 1) whole mask) rfl rfl 33 zeroRef (show Blk W3.drew _ _ _ from HA3.out.2.1) info_ref rfl (rc_one _ _ _ _ _ _ _ _ _ _ _ _ _ _ _) ?_; intro w4 hb4 hg4)
      have hbw4 : Below w.heap.size w w4 := HA3.out.2.2.2.drew.trans (hg4.below HA3.out.2.2.2.size (fun k hk => by omega))
      have hf4 : Fits n z (K + 1) { s with data := s.data.set i (seg down none off bs (s.row i)), cut := some (left - 1, whole, mask), acts := s.acts + 1 } := HP.out.fits.done i hi down none off bs s.on (some (left - 1, whole, mask)) s.offs (fun _ _ _ e => by injection e with e; injection e with e1 e2; injection e2 with e2 e3; subst e1; subst e2; subst e3; exact ⟨by omega, by omega, HWB.out.1, by omega, by omega, by omega⟩) ⟨HP.out.fits.ob.1, by have := HP.out.fits.ob.2; omega⟩
      have hP4 := acted (s' := { s with data := s.data.set i (seg down none off bs (s.row i)), cut := some (left - 1, whole, mask), acts := s.acts + 1 }) (cuts' := true) (left' := (left - 1)) (K' := K + 1) HP.out hi hlo hbw4 ((show Ob W3.drew _ _ _ _ _ _ from HA3.out.2.2.1).chg hg4 (by omega)) ((HR3.out.of_eq (w' := w4) (hg4.block g2 HR3.out.lt (by omega))).base hlx) rfl rfl rfl (.inr ⟨rfl, rfl⟩) (by omega) hf4 (by omega)
      refine bodyPost_ret (v := .tuple #[.int .i64 0, .agg (rc n z g2 cap2 wb wc bb bc (!s.on) s.offs (s.acts + 1) true (left - 1) whole mask)]) ?_ rfl ⟨_, rfl, Ref.of rfl hP4 ⟨hc1, HR.out.2.1, HR.out.2.2.1, hc2, HR.out.2.2.2.2⟩, hbw4⟩
      exact results_tmp_row (fn := Tryz.f30) rfl _ _ (w.heap.size + 1) 33 _ (0, 0) _ rfl hb4 Tryz.underlying33 rfl info_ref

set_option maxRecDepth 100000 in
set_option maxHeartbeats 2000000 in
theorem refAct_cut (w : World) (db dc wb wc bb bc : Nat) (left whole mask : Int) (L LC : Nat → Nat) (hP : RefP w lo n z K s db wb bb true 0 whole mask L LC) (hr : n ≤ dc ∧ n ≤ wc ∧ n ≤ bc ∧ dc ≤ 9223372036854775807 ∧ wc ≤ 9223372036854775807 ∧ bc ≤ 9223372036854775807) (i : Nat) (hi : i < n) (off len cb : Nat) (A : Option Addr) (bs : List Int) (down : Bool) (hb : Bs w A len bs) (hlen : len ≤ 100000) (hfit : off + len ≤ z) (hlo : lo ≤ w.heap.size) (hK : K + 2 ≤ 1000000) (hon : s.on = true) :
    Calls Tryz.prog 30 #[refVal n z s db dc wb wc bb bc true 0 whole mask, .int .i64 i, .int .i64 off, .slice A len cb, .bool down] w
      fun e w' => ∃ v', e = .returned (.tuple #[.int .i64 7, v']) ∧ Ref w' lo n z (K + 1) { s with data := s.data.set i (seg down (some (whole, mask)) off bs (s.row i)), on := false, cut := none, acts := s.acts + 1, offs := s.offs + 1 } v' ∧ Below w.heap.size w w' := by
  have hg := hP.geo
  have hab := hP.fits.ab
  have hrow := hP.rows i hi
  have hdata := hP.data.cell hi
  have hmb := hP.lw
  have HP := Lib.hid hP
  have HR := Lib.hid hr
  have HB := Lib.hid hb
  have HROW0 := Lib.hid hrow.1
  have HON := Lib.hid hon
  clear hon
  have hdc : n ≤ dc := hr.1
  have HWB : Hid (0 ≤ whole ∧ True) := ⟨by rcases HP.out.cut with ⟨_, h⟩ | ⟨h, _⟩; (cases h); exact (HP.out.fits.cb _ _ _ h).2.2.1, trivial⟩
  have hlz : 0 < z := hg.2.2.1
  clear hP hr hb hrow
  unfold refVal
  have hdl : db < w.heap.size := HP.out.data.lt
  have hdl1 : db < w.heap.size + 1 := by omega
  have hdl2 : db < w.heap.size + 1 + 1 := by omega
  go_enter Tryz.func30, Tryz.ntmps30
  go_wp2_with ((with_reducible refine pick (some 24) ?_); refine wpList_append_bytes rfl _ _ _ rfl (w.heap.size + 1 + 1) 5 Tryz.underlying38 info_u8 (w.heap.size + 1 + 1) 0 0 [] rfl ⟨rfl, (by simp), (boxed _ _ _ _ _).2.2.2⟩ (some ⟨L i, 0, none⟩) z (LC i) (s.row i) rfl (HROW0.out.below (boxed _ _ _ _ _).1) (fun e => by cases e) z (by omega) (s.row i) rfl (by omega) (by simp) ?_; intro g1 cap1 w1 ho1 hg1 hat1; have hst := boxed_grown hg1; have HB1 := Lib.hid hst.1; have S0 := Lib.hid hst.2.1; have S1 := Lib.hid hst.2.2; have HO := Lib.hid ho1; have hge : w.heap.size + 2 ≤ g1 := (by have := ho1.place; omega); have k7 : w1.cell? ⟨w.heap.size, 7, none⟩ = some (.int .i64 s.acts) := S0.out.cell 7; have k8 : w1.cell? ⟨w.heap.size, 8, none⟩ = some (.bool true) := S0.out.cell 8; have k9 : w1.cell? ⟨w.heap.size, 9, none⟩ = some (.int .i64 0) := S0.out.cell 9; have f7 := S0.out.frozen 7; have f9 := S0.out.frozen 9; clear hst ho1 hg1 hat1)
  have HA0 : Hid (AR w _ g1 z cap1 (rc n z db dc wb wc bb bc (!s.on) s.offs (s.acts + 1) true 0 whole mask) (s.row i)) := (AR.core ⟨S0.out, S1.out, HO.out, HB1.out⟩ 7 _)
  clear k7 k8 k9 f7 f9 S0 S1 HO HB1
  go_loopw [14, 15, 49] (fun _ _ q wr => ∃ j : Nat, j ≤ len ∧ q = .int .i64 j ∧ AR w wr g1 z cap1 (rc n z db dc wb wc bb bc (!s.on) s.offs (s.acts + 1) true 0 whole mask) (segTo down (some (whole, mask)) off j bs (s.row i))) (fun _ _ q _ => len - (intOf q).toNat)
  case atStart => exact ⟨0, by omega, rfl, by rw [segTo_zero]; exact HA0.out⟩
  case round =>
    clear HA0
    obtain ⟨j, hj, rfl, hA⟩ := hrel
    by_cases hlt : j < len
    · have hrl := (HP.out.fits.row i hi).1
      have kc := hA.2.2.1.cell (off + j) (by omega)
      have kf := hA.2.2.1.frozen (off + j)
      rw [segTo_at _ _ _ _ _ _ (by omega)] at kc
      have hbd := HROW0.out.bd (off + j)
      have hbw : Bs wr A len bs := HB.out.below hA.2.2.2
      obtain ⟨b, o, rfl, hbl, hbc⟩ := hbw.2.2 j hlt
      have hbb := HB.out.bd j
      have HS := Lib.hid (segTo_succ down (some (whole, mask)) off j bs (s.row i))
      have HAR := Lib.hid hA
      generalize hy : (s.row i).getD (off + j) 0 = y at *
      generalize hx : bs.getD j 0 = x at *
      clear hA hbw hy hx
      have v1 : IntKind.i64.wrap ((off : Int) + (j : Int)) = (off : Int) + (j : Int) := IntWalk.i64_in _ (by omega)
      have v2 : (0 : Int) ≤ (off : Int) + (j : Int) := by omega
      have v3 : (off : Int) + (j : Int) < (z : Int) := by omega
      have v4 : (0 : Int) ≤ (j : Int) := by omega
      have v5 : (j : Int) < (len : Int) := by omega
      have v6 : ((off : Int) + (j : Int)).toNat = off + j := by omega
      have k10 : wr.cell? ⟨w.heap.size, 10, none⟩ = some (.int .i64 whole) := HAR.out.1.cell 10
      have k11 : wr.cell? ⟨w.heap.size, 11, none⟩ = some (.int .u8 mask) := HAR.out.1.cell 11
      have hw3 : (j : Int) < whole ∨ (j : Int) = whole ∨ whole < (j : Int) := by omega
      rcases hw3 with hw3 | hw3 | hw3
      · have b1 : ((j : Int) == whole) = false := beq_eq_false_iff_ne.2 (by omega)
        have b2 : decide (whole < (j : Int)) = false := by simp; omega
        have HW3 := Lib.hid hw3
        clear hw3
        go_wp2_with fail
        go_still_tail 18, (by kernel_rfl)
        still_call ((bits_calls y x 255 down wr.drew hbd.1 hbd.2 hbb.1 hbb.2 (by omega) (by omega)).mono fun _ _ h => ⟨h.1, h.2.symm⟩)
        repeat still_step
        refine wpStill_nil ?_
        change wpList _ _ _ _ _ wr.drew
        clear v1 v2 v3 v4 v5 v6
        go_wp2_with fail
        go_roundw
        case rel =>
          refine ⟨j + 1, by omega, by go_num, ?_⟩
          have hv := bt_bd y x 255 down
          have h3 := AR.drew (HAR.out.set_ (off + j) (bt y x 255 down) hv.1 hv.2)
          have hs := HS.out
          rw [mk_lt HW3.out] at hs
          rw [hs] at h3
          exact h3
        case measure => simp [intOf]; omega
      · have b1 : ((j : Int) == whole) = true := beq_iff_eq.2 hw3
        have b2 : decide (whole < (j : Int)) = false := by simp; omega
        have HW3 := Lib.hid hw3
        clear hw3
        go_wp2_with fail
        go_still_tail 18, (by kernel_rfl)
        still_call ((bits_calls y x mask down wr.drew hbd.1 hbd.2 hbb.1 hbb.2 (by omega) (by omega)).mono fun _ _ h => ⟨h.1, h.2.symm⟩)
        repeat still_step
        refine wpStill_nil ?_
        change wpList _ _ _ _ _ wr.drew
        clear v1 v2 v3 v4 v5 v6
        go_wp2_with fail
        go_roundw
        case rel =>
          refine ⟨j + 1, by omega, by go_num, ?_⟩
          have hv := bt_bd y x mask down
          have h3 := AR.drew (HAR.out.set_ (off + j) (bt y x mask down) hv.1 hv.2)
          have hs := HS.out
          rw [mk_eq HW3.out] at hs
          rw [hs] at h3
          exact h3
        case measure => simp [intOf]; omega
      · have b1 : ((j : Int) == whole) = false := beq_eq_false_iff_ne.2 (by omega)
        have b2 : decide (whole < (j : Int)) = true := by simpa using hw3
        have HW3 := Lib.hid hw3
        clear hw3
        go_wp2_with fail
        go_still_tail 18, (by kernel_rfl)
        still_call ((bits_calls y x 0 down wr.drew hbd.1 hbd.2 hbb.1 hbb.2 (by omega) (by omega)).mono fun _ _ h => ⟨h.1, h.2.symm⟩)
        repeat still_step
        refine wpStill_nil ?_
        change wpList _ _ _ _ _ wr.drew
        clear v1 v2 v3 v4 v5 v6
        go_wp2_with fail
        go_roundw
        case rel =>
          refine ⟨j + 1, by omega, by go_num, ?_⟩
          have hv := bt_bd y x 0 down
          have h3 := AR.drew (HAR.out.set_ (off + j) (bt y x 0 down) hv.1 hv.2)
          have hs := HS.out
          rw [mk_gt HW3.out] at hs
          rw [hs] at h3
          exact h3
        case measure => simp [intOf]; omega
    · obtain rfl : j = len := by omega
      have HAR := Lib.hid hA
      have k2 : wr.cell? ⟨w.heap.size, 2, none⟩ = some (.slice (some ⟨db, 0, none⟩) n dc) := hA.1.cell 2
      have l2 : w.heap.size < wr.heap.size := hA.1.lt
      have hsz := hA.2.2.2.size
      clear hA
      have HPW : Hid (RefP (wr.alloc (.cells #[] 38)) lo n z K s db wb bb true 0 whole mask L LC) := HP.out.below (HAR.out.2.2.2.alloc hsz _)
      have HOW := Lib.hid (World.ownsRow_lit (base := wr.heap.size) (e := 38) (size := 1) wr #[] 0 (Nat.le_refl _) (by decide) rfl)
      go_wp2_with (first
        | ((with_reducible refine pick (some 91) ?_); refine wpList_append_row rfl _ _ _ rfl wr.heap.size 38 Tryz.underlying29 _ 24 info_bytes rfl (by omega) wr.heap.size rfl HOW.out lo db n dc _ rfl HPW.out.data (fun _ => rfl) hg.1 (by omega) (by simp) ?_; intro g2 cap2 w2 hrow2 hc1 hc2 hg2 hat2; have HA2 := Lib.hid (AR.grown HAR.out hg2); have HR2 := Lib.hid hrow2; have q2 : w2.cell? ⟨w.heap.size, 2, none⟩ = some (.slice (some ⟨db, 0, none⟩) n dc) := HA2.out.1.cell 2; have f2 := HA2.out.1.frozen 2; have kg := hrow2.cell hi; have kgf := hrow2.fr i; have hge2 : wr.heap.size ≤ g2 := hrow2.1; have n1 : ¬ g2 = w.heap.size := (by omega); have n2 : ¬ w.heap.size = g2 := (by omega); obtain ⟨t0, t1, t2, t3, t4, t5, t6, t7, t8, t9, t10, t11⟩ := twelve HA2.out.1; clear hrow2 hg2 hat2)
        | fail)
      have hgp := HAR.out.2.2.1.place
      have hA3 : AR w ((w2.setCell ⟨g2, i, none⟩ (.slice (some ⟨g1, 0, none⟩) z cap1)).setCell ⟨w.heap.size, 2, none⟩ (.slice (some ⟨g2, 0, none⟩) n cap2)) g1 z cap1 (rc n z g2 cap2 wb wc bb bc (!s.on) s.offs (s.acts + 1) true 0 whole mask) (segTo down (some (whole, mask)) off j bs (s.row i)) :=
        (HA2.out.far (g := g2) (by omega) (by omega) i _).core 2 _
      have hR3 : Row ((w2.setCell ⟨g2, i, none⟩ (.slice (some ⟨g1, 0, none⟩) z cap1)).setCell ⟨w.heap.size, 2, none⟩ (.slice (some ⟨g2, 0, none⟩) n cap2)) wr.heap.size g2 38 n (fun j => if j = i then .slice (some ⟨g1, 0, none⟩) z cap1 else .slice (some ⟨L j, 0, none⟩) z (LC j)) :=
        (HR2.out.set_ i _ hi).of_eq (Below.heap_setCell _ _ _ _ n1)
      have hbl := HB.out.len
      have eseg : segTo down (some (whole, mask)) off j bs (s.row i) = seg down (some (whole, mask)) off bs (s.row i) := by
        have := segTo_all down (some (whole, mask)) off bs (s.row i)
        rwa [hbl] at this
      rw [eseg] at hA3
      clear eseg hbl
      have HA3 := Lib.hid hA3
      have HR3 := Lib.hid hR3
      clear hA3 hR3 q2 f2 kg kgf
      have hlx : lo ≤ wr.heap.size := by omega
      generalize (w2.setCell ⟨g2, i, none⟩ (.slice (some ⟨g1, 0, none⟩) z cap1)).setCell ⟨w.heap.size, 2, none⟩ (.slice (some ⟨g2, 0, none⟩) n cap2) = W3 at *
      have hf3 : Fits n z (K + 1) { s with data := s.data.set i (seg down (some (whole, mask)) off bs (s.row i)), cut := some (0, whole, mask), acts := s.acts + 1 } := HP.out.fits.done i hi down (some (whole, mask)) off bs s.on (some (0, whole, mask)) s.offs (fun _ _ _ e => by injection e with e; injection e with e1 e2; injection e2 with e2 e3; subst e1; subst e2; subst e3; exact ⟨by omega, by omega, HWB.out.1, by omega, by omega, by omega⟩) ⟨HP.out.fits.ob.1, by have := HP.out.fits.ob.2; omega⟩
      have hP3 := acted (s' := { s with data := s.data.set i (seg down (some (whole, mask)) off bs (s.row i)), cut := some (0, whole, mask), acts := s.acts + 1 }) (cuts' := true) (left' := 0) (K' := K + 1) HP.out hi hlo HA3.out.2.2.2 HA3.out.2.2.1 (HR3.out.base hlx) rfl rfl rfl (.inr ⟨rfl, rfl⟩) (by omega) hf3 (by omega)
      have hT : Calls Tryz.prog 38 #[.agg (rc n z g2 cap2 wb wc bb bc (!s.on) s.offs (s.acts + 1) true 0 whole mask)] W3 (fun e w' => ∃ v', e = .returned v' ∧ Ref w' lo n z (K + 1 + 1) (St.turn { s with data := s.data.set i (seg down (some (whole, mask)) off bs (s.row i)), cut := some (0, whole, mask), acts := s.acts + 1 }) v' ∧ Below W3.heap.size W3 w') :=
        refTurn_calls W3 (refVal n z { s with data := s.data.set i (seg down (some (whole, mask)) off bs (s.row i)), cut := some (0, whole, mask), acts := s.acts + 1 } g2 cap2 wb wc bb bc true 0 whole mask) (Ref.of rfl hP3 ⟨hc1, HR.out.2.1, HR.out.2.2.1, hc2, HR.out.2.2.2.2⟩) (by omega)
      have e1 : St.turn { s with data := s.data.set i (seg down (some (whole, mask)) off bs (s.row i)), cut := some (0, whole, mask), acts := s.acts + 1 } = { s with data := s.data.set i (seg down (some (whole, mask)) off bs (s.row i)), on := false, cut := none, acts := s.acts + 1, offs := s.offs + 1 } := by
        unfold St.turn
        exact if_pos HON.out
      rw [e1] at hT
      have hf4 : Fits n z (K + 1) { s with data := s.data.set i (seg down (some (whole, mask)) off bs (s.row i)), on := false, cut := none, acts := s.acts + 1, offs := s.offs + 1 } := HP.out.fits.done i hi down (some (whole, mask)) off bs false none (s.offs + 1) (fun _ _ _ e => by cases e) ⟨by have := HP.out.fits.ob.1; omega, by have := HP.out.fits.ob.2; omega⟩
      have HT := Lib.hid hT
      have HF4 := Lib.hid hf4
      have S1 := Lib.hid HA3.out.2.1
      clear hT hf4 hf3 hP3 e1 t0 t1 t2 t3 t4 t5 t6 t7 t8 t9 t10 t11
      go_wp2_with (first
        | (go_at_call 38; refine (HT.out).mono ?_; rintro e w5 ⟨v', rfl, ⟨db', dc', wb', wc', bb', bc', cuts', left', whole', mask', L', LC', rfl, hP5, hr5⟩, hb5⟩; have S5 := Lib.hid (S1.out.of_eq (hb5.block _ S1.out.lt)); have HP5 := Lib.hid hP5; have HR5 := Lib.hid hr5; have HB5 := Lib.hid hb5; clear hP5 hr5 hb5)
        | ((with_reducible refine pick none ?_); refine wpList_store_blk rfl 33 _ _ rfl (w.heap.size + 1) (rc n z db' dc' wb' wc' bb' bc' (!false) (s.offs + 1) (s.acts + 1) cuts' left' whole' mask') rfl rfl 33 zeroRef S5.out info_ref rfl (rc_one _ _ _ _ _ _ _ _ _ _ _ _ _ _ _) ?_; intro w6 hb6 hg6))
      have hbw5 : Below w.heap.size w w5 := HA3.out.2.2.2.trans (HB5.out.mono HA3.out.2.2.2.size)
      have hbw6 : Below w.heap.size w w6 := hbw5.trans (hg6.below hbw5.size (fun k hk => by omega))
      have hP6 := RefP.refit (RefP.other HP5.out S5.out hg6) HF4.out (by omega)
      refine bodyPost_ret (v := .tuple #[.int .i64 7, .agg (rc n z db' dc' wb' wc' bb' bc' (!false) (s.offs + 1) (s.acts + 1) cuts' left' whole' mask')]) ?_ rfl ⟨_, rfl, Ref.of rfl hP6 HR5.out, hbw6⟩
      exact results_tmp_row (fn := Tryz.f30) rfl _ _ (w.heap.size + 1) 33 _ (0, 0) _ rfl hb6 Tryz.underlying33 rfl info_ref
end
end Go.Proofs.YthbafcihmcjchaaGreatDoor.NorU

/- The contracts of the document's device: where bytes may be, Program, Erase. -/
namespace Go.Proofs.YthbafcihmcjchaaGreatDoor.NorV
set_option linter.unusedVariables false
set_option linter.unusedSimpArgs false
open Go.RowKit
open Go.Proofs.YthbafcihmcjchaaGreatDoor.Byte Go.Proofs.YthbafcihmcjchaaGreatDoor.NorD Go.Proofs.YthbafcihmcjchaaGreatDoor.NorM Go.Proofs.YthbafcihmcjchaaGreatDoor.NorS Go.Proofs.YthbafcihmcjchaaGreatDoor.NorB Go.Proofs.YthbafcihmcjchaaGreatDoor.NorP Go.Proofs.YthbafcihmcjchaaGreatDoor.NorR Go.Proofs.YthbafcihmcjchaaGreatDoor.NorU Go.Proofs.YthbafcihmcjchaaGreatDoor.PlaceM Go.Proofs.YthbafcihmcjchaaGreatDoor.PlaceV

theorem inside_ways {n z : Nat} {se off m : Int} (h : inside n z se off m = false) : m < 0 ∨ (0 ≤ m ∧ (n : Int) ≤ se) ∨ (0 ≤ m ∧ se < n ∧ (z : Int) < off) ∨ (0 ≤ m ∧ se < n ∧ off ≤ z ∧ z - off < m) := by
  unfold inside at h
  rw [decide_eq_false_iff_not] at h
  omega
theorem inside_yes {n z : Nat} {se off m : Int} (h : inside n z se off m = true) : 0 ≤ m ∧ se < n ∧ off ≤ z ∧ m ≤ z - off := by
  unfold inside at h
  rwa [decide_eq_true_eq] at h
theorem still {P : Program} {f : FuncId} {args : Array Value} {w : World} {v : Value} (h : Calls P f args w fun e w' => e = .returned v ∧ w = w') : Calls P f args w fun e w' => e = .returned v ∧ w' = w :=
  h.mono fun _ _ h => ⟨h.1, h.2.symm⟩

section
variable {lo n z K : Nat} {s : St}
set_option maxRecDepth 100000 in
set_option maxHeartbeats 2000000 in
theorem refWithin_calls (x y : Nat) (m : Int) (w : World) (hx : rt x = true) (hy : rt y = true) (hm0 : -9223372036854775808 ≤ m) (hm1 : m ≤ 9223372036854775807) (hn : n ≤ 64) (hz : z ≤ 4096) :
    Calls Tryz.prog 28 #[.agg #[.int .i64 n, .int .i64 z], .complex .f64 x y, .int .i64 m] w fun e w' => e = .returned (.bool (inside n z (nm x) (nm y) m)) ∧ Below w.heap.size w w' := by
  obtain ⟨_, x0, x1⟩ := rt_fv hx
  obtain ⟨_, y0, y1⟩ := rt_fv hy
  have hr := fun w => right_calls x y w
  rw [hx, hy] at hr
  have HR := Lib.hid (fun w => still (hr w))
  have HS := Lib.hid (fun w => still (sector_calls x y w hx))
  have HO := Lib.hid (fun w => still (offset_calls x y w hy))
  clear hr
  obtain ⟨W, hW⟩ : ∃ W, w.alloc (.cells #[.int .i64 n, .int .i64 z] 28) = W := ⟨_, rfl⟩
  have HB : Hid (Below w.heap.size w W) := by rw [← hW]; exact (Below.refl _ _).alloc (Nat.le_refl _) _
  have HK : Hid (Blk W w.heap.size 28 #[.int .i64 n, .int .i64 z]) := by rw [← hW]; exact Blk.new w _ _
  have HW := Lib.hid hW
  clear hW
  generalize nm x = px at *
  generalize nm y = py at *
  cases hin : inside n z px py m
  · rcases inside_ways hin with h | ⟨h, h'⟩ | ⟨h, h', h''⟩ | ⟨h, h', h'', h'''⟩
    case inl =>
      clear hin
      go_enter Tryz.func28, Tryz.ntmps28
      go_wp2_with fail
      rw [HW.out]
      have c0 : W.cell? ⟨w.heap.size, 0, none⟩ = some (.int .i64 n) := HK.out.cell 0
      have c1 : W.cell? ⟨w.heap.size, 1, none⟩ = some (.int .i64 z) := HK.out.cell 1
      have d0 : decide (m < 0) = true := by simp; omega
      refine wp_region_still_lit (by kernel_rfl) (by kernel_rfl) ?_
      repeat still_step
      still_call (HR.out _)
      repeat still_step
      refine wpStill_nil ?_
      go_wp2_with fail
      go_ret
      exact ⟨rfl, HB.out.drew⟩
    case inr.inl =>
      clear hin
      go_enter Tryz.func28, Tryz.ntmps28
      go_wp2_with fail
      rw [HW.out]
      have c0 : W.cell? ⟨w.heap.size, 0, none⟩ = some (.int .i64 n) := HK.out.cell 0
      have c1 : W.cell? ⟨w.heap.size, 1, none⟩ = some (.int .i64 z) := HK.out.cell 1
      have d0 : decide (m < 0) = false := by simp; omega
      have d1 : decide ((n : Int) ≤ px) = true := by simp; omega
      refine wp_region_still_lit (by kernel_rfl) (by kernel_rfl) ?_
      repeat still_step
      still_call (HR.out _)
      repeat still_step
      still_call (HS.out _)
      repeat still_step
      refine wpStill_nil ?_
      go_wp2_with fail
      go_ret
      exact ⟨rfl, HB.out.drew⟩
    case inr.inr.inl =>
      clear hin
      go_enter Tryz.func28, Tryz.ntmps28
      go_wp2_with fail
      rw [HW.out]
      have c0 : W.cell? ⟨w.heap.size, 0, none⟩ = some (.int .i64 n) := HK.out.cell 0
      have c1 : W.cell? ⟨w.heap.size, 1, none⟩ = some (.int .i64 z) := HK.out.cell 1
      have d0 : decide (m < 0) = false := by simp; omega
      have d1 : decide ((n : Int) ≤ px) = false := by simp; omega
      have d2 : decide ((z : Int) < py) = true := by simp; omega
      refine wp_region_still_lit (by kernel_rfl) (by kernel_rfl) ?_
      repeat still_step
      still_call (HR.out _)
      repeat still_step
      still_call (HS.out _)
      repeat still_step
      still_call (HO.out _)
      repeat still_step
      refine wpStill_nil ?_
      go_wp2_with fail
      go_ret
      exact ⟨rfl, HB.out.drew⟩
    case inr.inr.inr =>
      clear hin
      go_enter Tryz.func28, Tryz.ntmps28
      go_wp2_with fail
      rw [HW.out]
      have c0 : W.cell? ⟨w.heap.size, 0, none⟩ = some (.int .i64 n) := HK.out.cell 0
      have c1 : W.cell? ⟨w.heap.size, 1, none⟩ = some (.int .i64 z) := HK.out.cell 1
      have d0 : decide (m < 0) = false := by simp; omega
      have d1 : decide ((n : Int) ≤ px) = false := by simp; omega
      have d2 : decide ((z : Int) < py) = false := by simp; omega
      have d3 : decide (m ≤ (z : Int) - py) = false := by simp; omega
      refine wp_region_still_lit (by kernel_rfl) (by kernel_rfl) ?_
      repeat still_step
      still_call (HR.out _)
      repeat still_step
      still_call (HS.out _)
      repeat still_step
      still_call (HO.out _)
      repeat still_step
      refine wpStill_nil ?_
      go_wp2_with fail
      change Code.wp _ _ _ _ W.drew
      have v1 : IntKind.i64.wrap ((z : Int) - py) = (z : Int) - py := IntWalk.i64_in _ (by omega)
      have e1 : W.drew.cell? ⟨w.heap.size, 1, none⟩ = some (.int .i64 z) := c1
      have HBD : Hid (Below w.heap.size w W.drew) := HB.out.drew
      generalize W.drew = W2 at e1 HBD ⊢
      clear c0 c1
      refine wp_region_still_lit (by kernel_rfl) (by kernel_rfl) ?_
      repeat still_step
      still_call (HO.out _)
      repeat still_step
      refine wpStill_nil ?_
      go_wp2_with fail
      go_ret
      exact ⟨rfl, HBD.out.drew⟩
  · obtain ⟨h, h', h'', h'''⟩ := inside_yes hin
    have hh : True := trivial
    all_goals
      clear hin
      go_enter Tryz.func28, Tryz.ntmps28
      go_wp2_with fail
      rw [HW.out]
      have c0 : W.cell? ⟨w.heap.size, 0, none⟩ = some (.int .i64 n) := HK.out.cell 0
      have c1 : W.cell? ⟨w.heap.size, 1, none⟩ = some (.int .i64 z) := HK.out.cell 1
      have d0 : decide (m < 0) = false := by simp; omega
      have d1 : decide ((n : Int) ≤ px) = false := by simp; omega
      have d2 : decide ((z : Int) < py) = false := by simp; omega
      have d3 : decide (m ≤ (z : Int) - py) = true := by simp; omega
      refine wp_region_still_lit (by kernel_rfl) (by kernel_rfl) ?_
      repeat still_step
      still_call (HR.out _)
      repeat still_step
      still_call (HS.out _)
      repeat still_step
      still_call (HO.out _)
      repeat still_step
      refine wpStill_nil ?_
      go_wp2_with fail
      change Code.wp _ _ _ _ W.drew
      have v1 : IntKind.i64.wrap ((z : Int) - py) = (z : Int) - py := IntWalk.i64_in _ (by omega)
      have e1 : W.drew.cell? ⟨w.heap.size, 1, none⟩ = some (.int .i64 z) := c1
      have HBD : Hid (Below w.heap.size w W.drew) := HB.out.drew
      generalize W.drew = W2 at e1 HBD ⊢
      clear c0 c1
      refine wp_region_still_lit (by kernel_rfl) (by kernel_rfl) ?_
      repeat still_step
      still_call (HO.out _)
      repeat still_step
      refine wpStill_nil ?_
      go_wp2_with fail
      go_ret
      exact ⟨rfl, HBD.out.drew⟩
end
end Go.Proofs.YthbafcihmcjchaaGreatDoor.NorV
