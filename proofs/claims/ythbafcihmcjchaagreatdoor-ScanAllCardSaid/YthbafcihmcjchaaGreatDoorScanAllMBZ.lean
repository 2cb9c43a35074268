/- Merged: NorPl ConvS. -/
import Derived.Test.YthbafcihmcjchaaGreatDoorScanAllMBY
import Derived.Test.YthbafcihmcjchaaGreatDoorScanAllMBX
import Derived.Test.YthbafcihmcjchaaGreatDoorScanAllMBV
import Derived.Laws.IdiomStrings
import Derived.ArgAppend
import Derived.Deep.AppendLies
import Derived.Test.YthbafcihmcjchaaGreatDoorByteS
/- The walk of layer 4's law NorPlays. -/
namespace Go.Proofs.YthbafcihmcjchaaGreatDoor.NorPl
set_option linter.unusedVariables false
set_option linter.unusedSimpArgs false
open Go.RowKit
open Go.Proofs.YthbafcihmcjchaaGreatDoor.Byte Go.Proofs.YthbafcihmcjchaaGreatDoor.NorD Go.Proofs.YthbafcihmcjchaaGreatDoor.NorM Go.Proofs.YthbafcihmcjchaaGreatDoor.NorS Go.Proofs.YthbafcihmcjchaaGreatDoor.NorF Go.Proofs.YthbafcihmcjchaaGreatDoor.NorG Go.Proofs.YthbafcihmcjchaaGreatDoor.NorH Go.Proofs.YthbafcihmcjchaaGreatDoor.NorB Go.Proofs.YthbafcihmcjchaaGreatDoor.NorP Go.Proofs.YthbafcihmcjchaaGreatDoor.NorR Go.Proofs.YthbafcihmcjchaaGreatDoor.NorU Go.Proofs.YthbafcihmcjchaaGreatDoor.NorV Go.Proofs.YthbafcihmcjchaaGreatDoor.NorX Go.Proofs.YthbafcihmcjchaaGreatDoor.NorY Go.Proofs.YthbafcihmcjchaaGreatDoor.NorZ Go.Proofs.YthbafcihmcjchaaGreatDoor.NorI Go.Proofs.YthbafcihmcjchaaGreatDoor.NorJ Go.Proofs.YthbafcihmcjchaaGreatDoor.NorK Go.Proofs.YthbafcihmcjchaaGreatDoor.NorL Go.Proofs.YthbafcihmcjchaaGreatDoor.NorDo Go.Proofs.YthbafcihmcjchaaGreatDoor.NorDp Go.Proofs.YthbafcihmcjchaaGreatDoor.NorDr Go.Proofs.YthbafcihmcjchaaGreatDoor.NorDs Go.Proofs.YthbafcihmcjchaaGreatDoor.NorDt Go.Proofs.YthbafcihmcjchaaGreatDoor.NorSm Go.Proofs.YthbafcihmcjchaaGreatDoor.NorO Go.Proofs.YthbafcihmcjchaaGreatDoor.NorQ Go.Proofs.YthbafcihmcjchaaGreatDoor.PlaceM Go.Proofs.YthbafcihmcjchaaGreatDoor.PlaceV

/-- The box of the geometry, behind whatever was made. -/
structure GX (w W : World) (n z : Int) : Prop where
  box : Blk W w.heap.size 28 #[.int .i64 n, .int .i64 z]
  bel : Below w.heap.size w W
section
variable {w W W' : World} {n z : Int}
theorem GX.of (w : World) (n z : Int) : GX w (w.alloc (.cells #[.int .i64 n, .int .i64 z] 28)) n z := ⟨Blk.new w _ _, (Below.refl _ _).alloc (Nat.le_refl _) _⟩
theorem GX.below (h : GX w W n z) (hb : Below W.heap.size W W') : GX w W' n z := ⟨h.box.of_eq (hb.block _ h.box.lt), h.bel.trans (hb.mono h.bel.size)⟩
theorem GX.c0 (h : GX w W n z) : W.cell? ⟨w.heap.size, 0, none⟩ = some (.int .i64 n) := h.box.cell 0
theorem GX.c1 (h : GX w W n z) : W.cell? ⟨w.heap.size, 1, none⟩ = some (.int .i64 z) := h.box.cell 1
end
theorem may_any (n z : Int) (w : World) : Calls Tryz.prog 25 #[.agg #[.int .i64 n, .int .i64 z]] w fun e w' => e = .returned (.bool (may n z)) ∧ Below w.heap.size w w' :=
  (refMay_calls n z w).mono fun e w' ⟨h1, h2⟩ => ⟨h1, by subst h2; exact (Below.refl _ _).alloc (Nat.le_refl _) _⟩
/-- What the operations behind A must be: bytes that read as bytes, ahead of lo; numbers of their kinds. -/
def OpsOk (w : World) (m : Nat) (ops : Nat → Opr) : Prop := ∀ j, j < m → (∃ bs, Bs w (ops j).B (ops j).bl bs) ∧ ((ops j).B = none → (ops j).bc = 0) ∧
  -9223372036854775808 ≤ (ops j).n ∧ (ops j).n ≤ 9223372036854775807 ∧ (ops j).k ≤ 9223372036854775807 ∧ 0 ≤ (ops j).mask ∧ (ops j).mask ≤ 255
/-- A variable of the document's device is written. -/
theorem RefP.var {w w' : World} {lo n z K : Nat} {s : St} {db wb bb : Nat} {cuts : Bool} {left whole mask : Int} {L LC : Nat → Nat} {g : Nat} {cs : Array Value} {x : Int} (h : RefP w lo n z K s db wb bb cuts left whole mask L LC) (hS : Blk w g 33 cs) (hx : cs[0]? = some (.int .i64 x)) (hg : Chg (fun q => q = g) w w') : RefP w' lo n z K s db wb bb cuts left whole mask L LC := by
  have hd : db ≠ g := by
    obtain ⟨_, cs, hb, _⟩ := h.data
    exact Blk.ne_ hb hS (by decide)
  have hw : wb ≠ g := by
    obtain ⟨_, cs, hb, _⟩ := h.wear
    exact Blk.ne_ hb hS (by decide)
  have hb : bb ≠ g := by
    obtain ⟨_, cs, hb, _⟩ := h.bad
    exact Blk.ne_ hb hS (by decide)
  refine ⟨h.data.of_eq (hg.block db h.data.lt hd), h.wear.of_eq (hg.block wb h.wear.lt hw), h.bad.of_eq (hg.block bb h.bad.lt hb), fun i hi => ?_, h.cut, h.fits, h.geo, h.lw, h.big⟩
  obtain ⟨h1, h2, h3⟩ := h.rows i hi
  refine ⟨h1.chg hg (fun b o e => ?_), h2, Nat.lt_of_lt_of_le h3 hg.size⟩
  rintro rfl
  have hc := h1.2.2 0 h.geo.2.2.1
  obtain ⟨b', o', e', _, hc⟩ := hc
  rw [e] at e'
  injection e' with e'
  injection e' with e1 e2
  injection e with e
  injection e with e3 e4
  subst e1 e2 e4
  have := hS.cell 0
  rw [hx] at this
  rw [hc] at this
  cases this
def RC (n z : Nat) (s : St) (db dc wb wc bb bc : Nat) (cuts : Bool) (left whole mask : Int) : Array Value := rc n z db dc wb wc bb bc (!s.on) s.offs s.acts cuts left whole mask
/-- The loop: device and document's device stand alike. -/
structure PX (w wr : World) (lo hi d rl n z bm K : Nat) (s : St) : Prop where
  dev : Dev wr lo hi d n z K s
  ref : ∃ db dc wb wc bb bc cuts left whole mask, Ref wr rl n z K s (.agg (RC n z s db dc wb wc bb bc cuts left whole mask)) ∧ Blk wr bm 33 (RC n z s db dc wb wc bb bc cuts left whole mask)
  bel : Below w.heap.size w wr
theorem agg_rc {w : World} {rl n z K : Nat} {s : St} {v : Value} (h : Ref w rl n z K s v) : ∃ db dc wb wc bb bc cuts left whole mask, v = .agg (RC n z s db dc wb wc bb bc cuts left whole mask) := by
  obtain ⟨db, dc, wb, wc, bb, bc, cuts, left, whole, mask, L, LC, hv, _⟩ := h
  exact ⟨db, dc, wb, wc, bb, bc, cuts, left, whole, mask, hv⟩
theorem Ref.var {w w' : World} {lo n z K : Nat} {s : St} {v : Value} {g : Nat} {cs : Array Value} {x : Int} (h : Ref w lo n z K s v) (hS : Blk w g 33 cs) (hx : cs[0]? = some (.int .i64 x)) (hg : Chg (fun q => q = g) w w') : Ref w' lo n z K s v := by
  obtain ⟨db, dc, wb, wc, bb, bc, cuts, left, whole, mask, L, LC, hv, hP, hr⟩ := h
  exact ⟨db, dc, wb, wc, bb, bc, cuts, left, whole, mask, L, LC, hv, RefP.var hP hS hx hg, hr⟩
theorem RC_one (n z : Nat) (s : St) (db dc wb wc bb bc : Nat) (cuts : Bool) (left whole mask : Int) : (RC n z s db dc wb wc bb bc cuts left whole mask).all (·.oneCell') = true := rc_one _ _ _ _ _ _ _ _ _ _ _ _ _ _ _
theorem Ref.below {w w' : World} {lo n z K : Nat} {s : St} {v : Value} (h : Ref w lo n z K s v) (hb : Below w.heap.size w w') : Ref w' lo n z K s v := h.keep (fun k _ h2 => hb.block k h2) hb.size
end Go.Proofs.YthbafcihmcjchaaGreatDoor.NorPl

/- Bytes made of a string that is a variable, and an append to them: wherever the room goes. -/
namespace Go.Proofs.YthbafcihmcjchaaGreatDoor.ConvS
set_option linter.unusedVariables false
open Go.RowKit
open Go.Proofs.YthbafcihmcjchaaGreatDoor.Byte

/-- A new row of bytes, behind which there may be room: nothing is frozen. -/
structure Fresh (w : World) (base g n cap : Nat) (xs : List Int) : Prop where
  bs : Bs w (some ⟨g, 0, none⟩) n xs
  fit : n ≤ cap
  at_ : base ≤ g
  room : ∀ j, j < cap → (w.cell? ⟨g, j, none⟩).isSome = true ∧ w.frozen? ⟨g, j, none⟩ = false
section
variable {P : Program} {w w' : World} {base g n cap : Nat} {xs : List Int}
theorem Fresh.below (h : Fresh w base g n cap xs) (hb : Below w.heap.size w w') : Fresh w' base g n cap xs := by
  refine ⟨h.bs.below hb, h.fit, h.at_, fun j hj => ?_⟩
  obtain ⟨h1, h2⟩ := h.room j hj
  obtain ⟨v, hv⟩ := Option.isSome_iff_exists.1 h1
  have hlt := World.block_lt_of_cell? w ⟨g, j, none⟩ hv
  refine ⟨by rw [(hb.cell (p := ⟨g, j, none⟩) hlt), hv]; rfl, ?_⟩
  rw [hb.frozen (p := ⟨g, j, none⟩) hlt, h2]
theorem conv_fresh (w : World) (src dst e : TypeId) (xs : List Int) (n : Nat) (hl : xs.length = n) (hx : ∀ x ∈ xs, 0 ≤ x ∧ x ≤ 255) (hs : P.underlying src = some .string) (hd : P.underlying dst = some (.slice e)) (he : P.underlying e = some (.int .u8)) :
    ∃ cap w', (convert src dst (.string (str xs))).run P w = .ok (.slice (some ⟨w.heap.size, 0, none⟩) n cap) w' ∧ Fresh w' w.heap.size w.heap.size n cap xs ∧ Below w.heap.size w w' := by
  have hsz : (str xs).size = n := by rw [str_size, hl]
  have hr := run_bytes_of_string (P := P) w src dst e (str xs) hs hd he
  have hge := grownCap_ge w (str xs).size 0 e
  generalize grownCap w (str xs).size 0 e = cap at hr hge
  rw [hsz] at hr hge
  have hrow : (bytesRow (str xs) cap).size = cap := by
    unfold bytesRow
    have : (str xs).data.size = n := hsz
    simp [this, hsz]
    omega
  have hcell : ∀ j, j < n → (bytesRow (str xs) cap)[j]? = some (.int .u8 (xs.getD j 0)) := fun j hj => by
    have h1 : j < (str xs).data.size := by rw [show (str xs).data.size = n from hsz]; exact hj
    have hj' : j < xs.length := by omega
    unfold bytesRow
    rw [Array.getElem?_append_left (by simpa using h1), Array.getElem?_map, Array.getElem?_eq_getElem h1, Option.map_some]
    have hb := hx _ (List.getElem_mem hj')
    have h2 : (str xs).data[j] = UInt8.ofNat (xs[j]).toNat := by simp [str]
    rw [h2, List.getD_eq_getElem?_getD, List.getElem?_eq_getElem hj', Option.getD_some]
    congr 2
    rw [UInt8.toNat_ofNat']
    omega
  refine ⟨cap, _, hr, ?_, ((Below.refl _ _).drew).alloc (Nat.le_refl _) _⟩
  have hh : (w.drew.alloc (.cells (bytesRow (str xs) cap) e ((bytesRow (str xs) cap).size, (bytesRow (str xs) cap).size + 1))).heap[w.heap.size]? = some (.cells (bytesRow (str xs) cap) e ((bytesRow (str xs) cap).size, (bytesRow (str xs) cap).size + 1)) := heap_alloc_new w.drew _
  refine ⟨⟨hl, hx, fun k hk => ⟨w.heap.size, 0, rfl, ?_, ?_⟩⟩, hge, Nat.le_refl _, fun j hj => ⟨?_, ?_⟩⟩
  · rcases Nat.lt_or_ge w.heap.size (w.drew.alloc (.cells (bytesRow (str xs) cap) e ((bytesRow (str xs) cap).size, (bytesRow (str xs) cap).size + 1))).heap.size with h | h
    · exact h
    · rw [Array.getElem?_eq_none h] at hh
      cases hh
  · rw [Nat.zero_add, cell_of_row _ _ _ _ _ _ hh]
    exact hcell k hk
  · rw [cell_of_row _ _ _ _ _ _ hh, Array.getElem?_eq_getElem (by rw [hrow]; exact hj)]
    rfl
  · unfold World.frozen?
    rw [hh]
    simp [hrow]
    omega
/-- A conversion whose run is known. -/
theorem wpList_conv {ops : Array Oper} {rest : List Oper} {o : Oper} {a : Act} {Q : Exit → Act → World → Prop} (hgd : o.guard = none) (s t : TypeId) (x : Operand) (ho : o.op = .convert s t x) (u v : Value) (hx : a.eval x = u) (hr : (convert s t u).run P w = .ok v w') (h : wpList P ops Q rest (a.put o.dst v) w') : wpList P ops Q (o :: rest) a w := by
  refine wpList_plain hgd fun K hK => ?_
  unfold Oper.wp execOp
  simp only [ho, hx, Sem.run_bind, hr, Result.andThen_ok, Sem.run_pure]
  exact hK _ _ h
/-- append of bytes to such a row. -/
theorem wpList_append_fresh {ops : Array Oper} {rest : List Oper} {o : Oper} {a : Act} {Q : Exit → Act → World → Prop} (hgd : o.guard = none) (s x : Operand) (t : TypeId)
    (ho : o.op = .call { callee := .builtin .append, args := #[s, x], argTypes := #[t, t] }) (e : TypeId) (ht : P.underlying t = some (.slice e)) (hinfo : (P.info? e).map (fun i => (i.zero, i.size, i.bytes)) = some (some (.int .u8 0), 1, 1))
    (base g n cap : Nat) (xs : List Int) (hs : a.eval s = .slice (some ⟨g, 0, none⟩) n cap) (hf : Fresh w base g n cap xs)
    (g2 m c : Nat) (ys : List Int) (hx : a.eval x = .slice (some ⟨g2, 0, none⟩) m c) (hr : Bs w (some ⟨g2, 0, none⟩) m ys) (hsmall : n + m ≤ 100000) (hbase : base ≤ w.heap.size)
    (N : Nat) (hN : n + m = N) (zs : List Int) (hzs : xs ++ ys = zs)
    (h : ∀ g' cap' w', Bs w' (some ⟨g', 0, none⟩) N zs → N ≤ cap' → Below base w w' → (0 < N → wpList P ops Q rest (a.put o.dst (.slice (some ⟨g', 0, none⟩) N cap')) w')) (hn0 : 0 < N) :
    wpList P ops Q (o :: rest) a w := by
  obtain ⟨i, hi, hz0, hz1, hz2⟩ := info_parts hinfo
  subst hN
  subst hzs
  have hlx : (xs.map (Value.int .u8)).length = n := by rw [List.length_map, hf.bs.len]
  have hly : (ys.map (Value.int .u8)).length = m := by rw [List.length_map, hr.len]
  have hmax : n + m ≤ maxLen := by unfold maxLen; omega
  have hcx : ∀ j u, (xs.map (Value.int .u8))[j]? = some u → w.cell? ⟨g, 0 + j, none⟩ = some u := fun j u hu => by
    have hj : j < n := by rw [← hlx]; exact (List.getElem?_eq_some_iff.1 hu).1
    rw [hf.bs.at_ j hj, ← hu, List.getElem?_map, List.getElem?_eq_getElem (by rw [hf.bs.len]; exact hj), List.getD_eq_getElem?_getD, List.getElem?_eq_getElem (by rw [hf.bs.len]; exact hj)]
    rfl
  have hcy : ∀ j u, (ys.map (Value.int .u8))[j]? = some u → w.cell? ((⟨g2, 0, none⟩ : Addr).add j) = some u := fun j u hu => by
    have hj : j < m := by rw [← hly]; exact (List.getElem?_eq_some_iff.1 hu).1
    have e2 : (⟨g2, 0, none⟩ : Addr).add j = ⟨g2, 0 + j, none⟩ := by
      unfold Addr.add
      by_cases h0 : j = 0 <;> simp [h0]
    rw [e2, hr.at_ j hj, ← hu, List.getElem?_map, List.getElem?_eq_getElem (by rw [hr.len]; exact hj), List.getD_eq_getElem?_getD, List.getElem?_eq_getElem (by rw [hr.len]; exact hj)]
    rfl
  have hbd : ∀ y ∈ xs ++ ys, 0 ≤ y ∧ y ≤ 255 := fun y hy => (List.mem_append.1 hy).elim (hf.bs.2.1 y) (hr.2.1 y)
  have hlen : (xs ++ ys).length = n + m := by rw [List.length_append, hf.bs.len, hr.len]
  refine wpList_append_arg w hgd s x t ho e i _ 1 1 ht hi hz0 hz1 hz2 rfl (by omega) g 0 n cap (xs.map (Value.int .u8)) hs (by rw [hlx, Nat.mul_one]) hcx ⟨g2, 0, none⟩ m c (ys.map (Value.int .u8)) hx (by rw [hly, Nat.mul_one]) hcy (fun u hu => by obtain ⟨_, _, rfl⟩ := List.mem_map.1 hu; rfl)
    (fun hfit j hj => by
      rw [hly] at hj
      have := hf.room (n + j) (by omega)
      rw [Nat.zero_add, Nat.mul_one]
      exact this) hmax (by omega) (fun hfit => ?_) (fun hgr v' w' hown hgrow => ?_)
  · rw [Nat.zero_add, Nat.mul_one]
    have hthere : ∀ j, j < (ys.map (Value.int .u8)).length → (w.cell? ⟨g, n + j, none⟩).isSome = true := fun j hj => (hf.room (n + j) (by rw [hly] at hj; omega)).1
    refine h g cap _ ⟨hlen, hbd, fun k hk => ?_⟩ hfit ((Below.refl _ _).grown (grown_setCells g _ n w) hbase (by intro q hq; injection hq with hq; have := hf.at_; omega)) hn0
    have hlt : g < (w.setCells g n (ys.map (Value.int .u8))).heap.size := by
      have h1 := (grown_setCells g (ys.map (Value.int .u8)) n w).size
      obtain ⟨u, hu⟩ := Option.isSome_iff_exists.1 (hf.room k (by omega)).1
      have h2 := World.block_lt_of_cell? w ⟨g, k, none⟩ hu
      exact Nat.lt_of_lt_of_le h2 h1
    refine ⟨g, 0, rfl, hlt, ?_⟩
    rw [Nat.zero_add]
    rcases Nat.lt_or_ge k n with hkn | hkn
    · rw [World.cell?_setCells_out g _ n w ⟨g, k, none⟩ (fun _ _ => .inl hkn)]
      have h3 := hf.bs.at_ k hkn
      rw [Nat.zero_add] at h3
      rw [h3, List.getD_eq_getElem?_getD, List.getD_eq_getElem?_getD, List.getElem?_append_left (by rw [hf.bs.len]; exact hkn)]
    · obtain ⟨q, rfl⟩ : ∃ q, k = n + q := ⟨k - n, by omega⟩
      have hq : q < m := by omega
      rw [World.cell?_setCells_in g _ n w hthere q (by rw [hly]; exact hq), List.getElem_map, List.getD_eq_getElem?_getD, List.getElem?_append_right (by rw [hf.bs.len]; omega), hf.bs.len, Nat.add_sub_cancel_left, List.getElem?_eq_getElem (by rw [hr.len]; exact hq)]
      rfl
  · obtain ⟨g', cap', rfl, _, _⟩ := hown.form hn0
    have hO : Ob w' w.heap.size e g' (n + m) cap' (xs ++ ys) := ⟨hlen, hbd, by rw [List.map_append]; exact hown⟩
    exact h g' cap' w' hO.bs hO.capLe ((Below.refl _ _).grown hgrow hbase (by intro q hq; cases hq)) hn0
end
end Go.Proofs.YthbafcihmcjchaaGreatDoor.ConvS
