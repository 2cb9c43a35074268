/- The contracts of the document's device: Spoil, the act. -/
import Derived.Test.YtdcmpkohengnaaaNorP
import Derived.StillTailTactics
import Derived.Deep.RegionHeld3
import Derived.IntWalk
namespace Go.Proofs.Ytdcmpkohengnaaa.NorR
set_option linter.unusedVariables false
set_option linter.unusedSimpArgs false
open Go.RowKit
open Go.Proofs.Ytdcmpkohengnaaa.Byte Go.Proofs.Ytdcmpkohengnaaa.NorD Go.Proofs.Ytdcmpkohengnaaa.NorM Go.Proofs.Ytdcmpkohengnaaa.NorS Go.Proofs.Ytdcmpkohengnaaa.NorB Go.Proofs.Ytdcmpkohengnaaa.NorP Go.Proofs.Ytdcmpkohengnaaa.PlaceM Go.Proofs.Ytdcmpkohengnaaa.PlaceV

theorem info_bool : (Try.prog.info? 4).map (fun i => (i.zero, i.size, i.bytes)) = some (some (.bool false), 1, 1) := by kernel_rfl
theorem info_int : (Try.prog.info? 3).map (fun i => (i.zero, i.size, i.bytes)) = some (some (.int .i64 0), 1, 8) := by kernel_rfl
theorem info_bytes : (Try.prog.info? 38).map (fun i => (i.zero, i.size, i.bytes)) = some (some (.slice none 0 0), 1, 24) := by kernel_rfl
theorem info_u8 : (Try.prog.info? 5).map (fun i => (i.zero, i.size, i.bytes)) = some (some (.int .u8 0), 1, 1) := by kernel_rfl

/-- The document's device's struct in memory. -/
def rc (n z db dc wb wc bb bc : Nat) (off : Bool) (offs acts : Int) (cuts : Bool) (left whole mask : Int) : Array Value :=
  #[.int .i64 n, .int .i64 z, .slice (some ⟨db, 0, none⟩) n dc, .slice (some ⟨wb, 0, none⟩) n wc, .slice (some ⟨bb, 0, none⟩) n bc, .bool off, .int .i64 offs, .int .i64 acts, .bool cuts, .int .i64 left, .int .i64 whole, .int .u8 mask]
theorem rc_one (n z db dc wb wc bb bc : Nat) (off : Bool) (offs acts : Int) (cuts : Bool) (left whole mask : Int) : (rc n z db dc wb wc bb bc off offs acts cuts left whole mask).all (·.oneCell') = true := by simp [rc, Value.oneCell']
theorem info_ref : (Try.prog.info? 35).map (·.size) = some 12 := by kernel_rfl
def zeroRef : Array Value := #[.int .i64 0, .int .i64 0, .slice none 0 0, .slice none 0 0, .slice none 0 0, .bool false, .int .i64 0, .int .i64 0, .bool false, .int .i64 0, .int .i64 0, .int .u8 0]
section
variable {P : Program}
/-- A whole block is written. -/
theorem wpList_store_blk {ops : Array Oper} {rest : List Oper} {o : Oper} {a : Act} {w : World} {Q : Exit → Act → World → Prop} (hgd : o.guard = none) (ty : TypeId) (x y : Operand) (ho : o.op = .store ty x y)
    (g : Nat) (cells : Array Value) (hx : a.eval x = .pointer (some ⟨g, 0, none⟩)) (hy : a.eval y = .agg cells)
    (t : TypeId) (old : Array Value) (hg : Blk w g t old) (hi : (P.info? ty).map (·.size) = some cells.size) (hold : old.size = cells.size) (h1 : cells.all (·.oneCell') = true)
    (h : ∀ w', Blk w' g t cells → Chg (fun q => q = g) w w' → wpList P ops Q rest (a.put o.dst undef) w') : wpList P ops Q (o :: rest) a w := by
  refine wpList_store_row hgd ty x y ho g cells hx hy t old hg hi hold h1 (h _ (setRow_heap w g old cells t (0, 0) hg) ⟨rfl, rfl, rfl, by simp [World.setRow], fun k _ hn => setRow_other w g k cells hn⟩)
end

/-- The world behind the box of the receiver, the result's variable, and an empty slice. -/
theorem boxed (w : World) (c zz : Array Value) (t e : TypeId) : Below w.heap.size w (((w.alloc (.cells c t)).alloc (.cells zz t)).alloc (.cells #[] e)) ∧ Blk (((w.alloc (.cells c t)).alloc (.cells zz t)).alloc (.cells #[] e)) w.heap.size t c ∧ Blk (((w.alloc (.cells c t)).alloc (.cells zz t)).alloc (.cells #[] e)) (w.heap.size + 1) t zz ∧
    (((w.alloc (.cells c t)).alloc (.cells zz t)).alloc (.cells #[] e)).ownsRow (w.heap.size + 1 + 1) e 1 (.slice (some ⟨w.heap.size + 1 + 1, 0, none⟩) 0 0) 0 [] := by
  refine ⟨(two_allocs w _ _).alloc (by simp; omega) _, ((Blk.new w _ _).alloc _).alloc _, ?_, ?_⟩
  · have := (Blk.new (w.alloc (.cells c t)) t zz).alloc (.cells #[] e)
    simpa using this
  · have := World.ownsRow_lit (base := w.heap.size + 1 + 1) (e := e) (size := 1) ((w.alloc (.cells c t)).alloc (.cells zz t)) #[] 0 (by simp) (by decide) rfl
    simpa using this
theorem boxed_grown {w w1 : World} {c zz : Array Value} {t e : TypeId} (hg : (((w.alloc (.cells c t)).alloc (.cells zz t)).alloc (.cells #[] e)).grownBy w1 (some (w.heap.size + 1 + 1))) :
    Below w.heap.size w w1 ∧ Blk w1 w.heap.size t c ∧ Blk w1 (w.heap.size + 1) t zz := by
  obtain ⟨h1, h2, h3, h4⟩ := boxed w c zz t e
  exact ⟨h1.grown hg h1.size (fun k e => by injection e with e; omega), h2.of_eq (hg.block _ h2.lt (by simp; omega)), h3.of_eq (hg.block _ h3.lt (by simp))⟩

section
variable {lo n z K : Nat} {s : St} {db wb bb : Nat} {cuts : Bool} {left whole mask : Int} {L LC : Nat → Nat}

set_option maxRecDepth 100000 in
set_option maxHeartbeats 1000000 in
theorem refSpoil_yes (w : World) (v : Value) (h : Ref w lo n z K s v) (i : Nat) (hi : i < n) (hlo : lo ≤ w.heap.size) :
    Calls Try.prog 38 #[v, .int .i64 i] w fun e w' => ∃ v', e = .returned v' ∧ Ref w' lo n z K { s with bad := s.bad.set i true } v' ∧ Below w.heap.size w w' := by
  obtain ⟨db, dc, wb, wc, bb, bc, cuts, left, whole, mask, L, LC, rfl, hP, hr⟩ := h
  have hf : Fits n z K { s with bad := s.bad.set i true } := by
    have := hP.fits.spoil (i : Int)
    unfold St.spoil at this
    rwa [if_pos (by omega), Int.toNat_natCast] at this
  have hg := hP.geo
  have HP := Lib.hid hP
  have HR := Lib.hid hr
  have HF := Lib.hid hf
  clear hP hr hf
  unfold refVal
  go_enter Try.func38, Try.ntmps38
  go_wp2_with (first
    | ((with_reducible refine pick (some 10) ?_); refine wpList_append_row rfl _ _ _ rfl (w.heap.size + 1 + 1) 4 Try.underlying33 _ 1 info_bool rfl (by omega) (w.heap.size + 1 + 1) rfl (boxed _ _ _ _ _).2.2.2 lo bb n bc _ rfl (HP.out.below (boxed _ _ _ _ _).1).bad (fun _ => rfl) hg.1 (by omega) (by simp) ?_; intro g1 cap1 w1 hrow1 hc1 hc2 hg1 hat1; have hst := boxed_grown hg1; have HB1 := Lib.hid hst.1; have S0 := Lib.hid hst.2.1; have S1 := Lib.hid hst.2.2; have kc := hrow1.cell hi; have kf := hrow1.fr i; have k4 : w1.cell? ⟨w.heap.size, 4, none⟩ = some (.slice (some ⟨bb, 0, none⟩) n bc) := S0.out.cell 4; have f4 := S0.out.frozen 4; have HROW := Lib.hid hrow1; have hge : w.heap.size + 2 ≤ g1 := (by have := hrow1.1; omega); have n1 : ¬ g1 = w.heap.size := (by omega); have n2 : ¬ w.heap.size = g1 := (by omega); clear hst hrow1 hg1 hat1)
    | ((with_reducible refine pick (some 24) ?_); refine wpList_load_row rfl _ _ rfl w.heap.size rfl 35 (rc n z db dc wb wc g1 cap1 (!s.on) s.offs s.acts cuts left whole mask) (0, 0) _ ((S0.out.far (p := ⟨g1, i, none⟩) n2 _).set_ 4 _) Try.underlying35 rfl info_ref ?_)
    | ((with_reducible refine pick none ?_); refine wpList_store_blk rfl 35 _ _ rfl (w.heap.size + 1) (rc n z db dc wb wc g1 cap1 (!s.on) s.offs s.acts cuts left whole mask) rfl rfl 35 _ ((S1.out.far (p := ⟨g1, i, none⟩) (by show w.heap.size + 1 ≠ g1; omega) _).far (p := ⟨w.heap.size, 4, none⟩) (by show w.heap.size + 1 ≠ w.heap.size; omega) _) info_ref rfl (rc_one _ _ _ _ _ _ _ _ _ _ _ _ _ _ _) ?_; intro w2 hb2 hg2))
  have hw2 : Chg (fun q => w.heap.size ≤ q) w1 w2 := (((Chg.refl _ w1).setCell (.inl (show w.heap.size ≤ g1 by omega)) _).setCell (.inl (Nat.le_refl w.heap.size)) _).trans (hg2.mono (fun k _ e => by rw [e]; omega))
  have hb3 : Below w.heap.size w w2 := HB1.out.trans (hw2.below HB1.out.size (fun k hk => by omega))
  have hr2 : Row w2 lo g1 4 n (fun j => .bool ((s.bad.set i true).getD j false)) := by
    have h1 := (HROW.out.set_ i (.bool true) hi).of_eq (w' := w2) ?_
    · exact (h1.congr (fun j hj => by
        rw [getD_setB _ _ _ _ (by rw [HP.out.fits.bl]; exact hi)]
        by_cases e : j = i <;> simp [e])).base (by omega)
    · rw [hg2.block g1 (by have := HROW.out.lt; simpa [World.setCell] using this) (by omega)]
      exact Below.heap_setCell _ _ _ _ n1
  exact bodyPost_ret (v := .agg (rc n z db dc wb wc g1 cap1 (!s.on) s.offs s.acts cuts left whole mask)) (results_cell_row rfl _ _ (w.heap.size + 1) 35 _ (0, 0) _ rfl hb2 Try.underlying35 rfl info_ref) rfl
    ⟨_, rfl, Ref.of (s := { s with bad := s.bad.set i true }) (db := db) (wb := wb) (bb := g1) (left := left) (whole := whole) (mask := mask) (cuts := cuts) (L := L) (LC := LC) rfl ⟨(HP.out.below hb3).data, (HP.out.below hb3).wear, hr2, (HP.out.below hb3).rows, HP.out.cut, HF.out, HP.out.geo, HP.out.lw, HP.out.big⟩ ⟨HR.out.1, HR.out.2.1, hc1, HR.out.2.2.2.1, HR.out.2.2.2.2.1, hc2⟩, hb3⟩
set_option maxRecDepth 100000 in
set_option maxHeartbeats 1000000 in
theorem refSpoil_no (w : World) (v : Value) (h : Ref w lo n z K s v) (se : Int) (hse : se < 0 ∨ (0 ≤ se ∧ (n : Int) ≤ se)) (hlo : lo ≤ w.heap.size) :
    Calls Try.prog 38 #[v, .int .i64 se] w fun e w' => ∃ v', e = .returned v' ∧ Ref w' lo n z K s v' ∧ Below w.heap.size w w' := by
  obtain ⟨db, dc, wb, wc, bb, bc, cuts, left, whole, mask, L, LC, rfl, hP, hr⟩ := h
  have hg := hP.geo
  have HP := Lib.hid hP
  have HR := Lib.hid hr
  clear hP hr
  unfold refVal
  have hlen : 0 ≤ se → decide (se < (n : Int)) = false := fun _ => by simp; omega
  rcases hse with hse | ⟨hse, hse'⟩
  case' inr => have hd := hlen hse
  all_goals clear hlen
  all_goals
   go_enter Try.func38, Try.ntmps38
   go_wp2_with (first
     | ((with_reducible refine pick (some 10) ?_); refine wpList_append_row rfl _ _ _ rfl (w.heap.size + 1 + 1) 4 Try.underlying33 _ 1 info_bool rfl (by omega) (w.heap.size + 1 + 1) rfl (boxed _ _ _ _ _).2.2.2 lo bb n bc _ rfl (HP.out.below (boxed _ _ _ _ _).1).bad (fun _ => rfl) hg.1 (by omega) (by simp) ?_; intro g1 cap1 w1 hrow1 hc1 hc2 hg1 hat1; have hst := boxed_grown hg1; have HB1 := Lib.hid hst.1; have S0 := Lib.hid hst.2.1; have S1 := Lib.hid hst.2.2; have k4 : w1.cell? ⟨w.heap.size, 4, none⟩ = some (.slice (some ⟨bb, 0, none⟩) n bc) := S0.out.cell 4; have f4 := S0.out.frozen 4; have HROW := Lib.hid hrow1; have hge : w.heap.size + 2 ≤ g1 := (by have := hrow1.1; omega); have n1 : ¬ g1 = w.heap.size := (by omega); have n2 : ¬ w.heap.size = g1 := (by omega); clear hst hrow1 hg1 hat1)
     | ((with_reducible refine pick (some 24) ?_); refine wpList_load_row rfl _ _ rfl w.heap.size rfl 35 (rc n z db dc wb wc g1 cap1 (!s.on) s.offs s.acts cuts left whole mask) (0, 0) _ (S0.out.set_ 4 _) Try.underlying35 rfl info_ref ?_)
     | ((with_reducible refine pick none ?_); refine wpList_store_blk rfl 35 _ _ rfl (w.heap.size + 1) (rc n z db dc wb wc g1 cap1 (!s.on) s.offs s.acts cuts left whole mask) rfl rfl 35 _ (S1.out.far (p := ⟨w.heap.size, 4, none⟩) (by show w.heap.size + 1 ≠ w.heap.size; omega) _) info_ref rfl (rc_one _ _ _ _ _ _ _ _ _ _ _ _ _ _ _) ?_; intro w2 hb2 hg2))
   have hw2 : Chg (fun q => w.heap.size ≤ q) w1 w2 := ((Chg.refl _ w1).setCell (.inl (Nat.le_refl w.heap.size)) _).trans (hg2.mono (fun k _ e => by rw [e]; omega))
   have hb3 : Below w.heap.size w w2 := HB1.out.trans (hw2.below HB1.out.size (fun k hk => by omega))
   have hr2 : Row w2 lo g1 4 n (fun j => .bool (s.bad.getD j false)) := by
     refine (HROW.out.of_eq (w' := w2) ?_).base (by omega)
     rw [hg2.block g1 (by have := HROW.out.lt; simpa [World.setCell] using this) (by omega)]
     exact Below.heap_setCell _ _ _ _ n1
   exact bodyPost_ret (v := .agg (rc n z db dc wb wc g1 cap1 (!s.on) s.offs s.acts cuts left whole mask)) (results_cell_row rfl _ _ (w.heap.size + 1) 35 _ (0, 0) _ rfl hb2 Try.underlying35 rfl info_ref) rfl
     ⟨_, rfl, Ref.of (db := db) (wb := wb) (bb := g1) (left := left) (whole := whole) (mask := mask) (cuts := cuts) (L := L) (LC := LC) rfl ⟨(HP.out.below hb3).data, (HP.out.below hb3).wear, hr2, (HP.out.below hb3).rows, HP.out.cut, HP.out.fits, HP.out.geo, HP.out.lw, HP.out.big⟩ ⟨HR.out.1, HR.out.2.1, hc1, HR.out.2.2.2.1, HR.out.2.2.2.2.1, hc2⟩, hb3⟩
theorem refSpoil_calls (w : World) (v : Value) (h : Ref w lo n z K s v) (se : Int) (hlo : lo ≤ w.heap.size) :
    Calls Try.prog 38 #[v, .int .i64 se] w fun e w' => ∃ v', e = .returned v' ∧ Ref w' lo n z K (s.spoil n se) v' ∧ Below w.heap.size w w' := by
  by_cases hin : 0 ≤ se ∧ se < (n : Int)
  · obtain ⟨i, rfl⟩ := Int.eq_ofNat_of_zero_le hin.1
    have e1 : s.spoil n (i : Int) = { s with bad := s.bad.set i true } := by
      unfold St.spoil
      rw [if_pos hin, Int.toNat_natCast]
    rw [e1]
    exact refSpoil_yes w v h i (by omega) hlo
  · have e1 : s.spoil n se = s := by
      unfold St.spoil
      rw [if_neg hin]
    rw [e1]
    exact refSpoil_no w v h se (by omega) hlo
end
end Go.Proofs.Ytdcmpkohengnaaa.NorR
