/- The document's own device in memory ('Ref'), and the contracts of its small methods. -/
import Derived.Test.YthbafcihmcjchaaGreatDoorNorS
import Derived.Test.YthbafcihmcjchaaGreatDoorNorB
import Derived.Deep.AppendLies
namespace Go.Proofs.YthbafcihmcjchaaGreatDoor.NorP
set_option linter.unusedVariables false
set_option linter.unusedSimpArgs false
open Go.RowKit
open Go.Proofs.YthbafcihmcjchaaGreatDoor.Byte Go.Proofs.YthbafcihmcjchaaGreatDoor.NorD Go.Proofs.YthbafcihmcjchaaGreatDoor.NorM Go.Proofs.YthbafcihmcjchaaGreatDoor.NorS Go.Proofs.YthbafcihmcjchaaGreatDoor.PlaceM Go.Proofs.YthbafcihmcjchaaGreatDoor.PlaceV

/-- Block g has at least these cells. -/
def Row (w : World) (lo g : Nat) (t : TypeId) (n : Nat) (f : Nat → Value) : Prop := lo ≤ g ∧ ∃ cs : Array Value, Blk w g t cs ∧ ∀ i, i < n → cs[i]? = some (f i)
section
variable {w w' : World} {lo g n : Nat} {t : TypeId} {f : Nat → Value}
theorem Row.cell (h : Row w lo g t n f) {i : Nat} (hi : i < n) : w.cell? ⟨g, i, none⟩ = some (f i) := by
  obtain ⟨_, cs, hb, hc⟩ := h
  rw [hb.cell]
  exact hc i hi
theorem Row.fr (h : Row w lo g t n f) (i : Nat) : w.frozen? ⟨g, i, none⟩ = false := by
  obtain ⟨_, cs, hb, hc⟩ := h
  exact hb.frozen i
theorem Row.lt (h : Row w lo g t n f) : g < w.heap.size := by
  obtain ⟨_, cs, hb, hc⟩ := h
  exact hb.lt
theorem Row.of_eq (h : Row w lo g t n f) (e : w'.heap[g]? = w.heap[g]?) : Row w' lo g t n f := by
  obtain ⟨hl, cs, hb, hc⟩ := h
  exact ⟨hl, cs, hb.of_eq e, hc⟩
theorem Row.congr {f' : Nat → Value} (h : Row w lo g t n f) (e : ∀ i, i < n → f i = f' i) : Row w lo g t n f' := by
  obtain ⟨hl, cs, hb, hc⟩ := h
  exact ⟨hl, cs, hb, fun i hi => by rw [hc i hi, e i hi]⟩
theorem Row.base {lo' : Nat} (h : Row w lo g t n f) (hl : lo' ≤ lo) : Row w lo' g t n f := ⟨Nat.le_trans hl h.1, h.2⟩
theorem Row.set_ (h : Row w lo g t n f) (j : Nat) (v : Value) (hj : j < n) : Row (w.setCell ⟨g, j, none⟩ v) lo g t n (fun i => if i = j then v else f i) := by
  obtain ⟨hl, cs, hb, hc⟩ := h
  have hlt : j < cs.size := (Array.getElem?_eq_some_iff.1 (hc j hj)).1
  refine ⟨hl, _, hb.set_ _ _, fun i hi => ?_⟩
  by_cases e : i = j
  · subst e
    rw [Array.getElem?_setIfInBounds_self_of_lt hlt]
    simp
  · rw [Array.getElem?_setIfInBounds_ne (by omega), hc i hi]
    simp [e]
theorem Row.news (h : Row w lo g t n f) : ∀ j u, ((List.range n).map f)[j]? = some u → w.cell? ((⟨g, 0, none⟩ : Addr).add j) = some u := by
  intro j u hu
  have hj : j < n := by
    have := (List.getElem?_eq_some_iff.1 hu).1
    simpa using this
  have e2 : (⟨g, 0, none⟩ : Addr).add j = ⟨g, j, none⟩ := by
    unfold Addr.add
    by_cases h0 : j = 0 <;> simp [h0]
  rw [e2, h.cell hj, ← hu]
  simp [hj]
/-- Out of a row of the call's own. -/
theorem Row.of_own {cap : Nat} {xs : List Value} (h : w.ownsRow lo t 1 (.slice (some ⟨g, 0, none⟩) n cap) n xs) (hf : ∀ i, i < n → xs[i]? = some (f i)) : Row w lo g t n f := by
  rcases h.2 with ⟨h', _⟩ | ⟨g', cap', cur, h', hl, h3, _, _, _, ht⟩
  · cases h'
  · injection h' with h1 _ h2
    injection h1 with h1
    injection h1 with h1
    subst h1
    refine ⟨hl, cur, h3, fun i hi => ?_⟩
    have := hf i hi
    rw [← ht, List.getElem?_take, if_pos (by omega), Array.getElem?_toList] at this
    exact this
end

theorem own_cap {w : World} {base : Nat} {e : TypeId} {g cap n : Nat} {xs : List Value} (h : w.ownsRow base e 1 (.slice (some ⟨g, 0, none⟩) n cap) n xs) : n ≤ cap ∧ cap ≤ 9223372036854775807 := by
  rcases h.2 with ⟨h', _⟩ | ⟨g2, cap2, cur, h', _, _, h3, h4, _⟩
  · cases h'
  · injection h' with _ _ h5
    subst h5
    unfold maxLen at h4
    omega
/-- The document's device, its parts named. -/
structure RefP (w : World) (lo n z K : Nat) (s : St) (db wb bb : Nat) (cuts : Bool) (left whole mask : Int) (L LC : Nat → Nat) : Prop where
  data : Row w lo db 38 n (fun i => .slice (some ⟨L i, 0, none⟩) z (LC i))
  wear : Row w lo wb 3 n (fun i => .int .i64 (s.wear.getD i 0))
  bad : Row w lo bb 4 n (fun i => .bool (s.bad.getD i false))
  rows : ∀ i, i < n → Bs w (some ⟨L i, 0, none⟩) z (s.row i) ∧ (lo ≤ L i ∧ z ≤ LC i ∧ LC i ≤ 9223372036854775807) ∧ L i < w.heap.size
  cut : (s.cut = none ∧ cuts = false) ∨ (s.cut = some (left, whole, mask) ∧ cuts = true)
  fits : Fits n z K s
  geo : 0 < n ∧ n ≤ 64 ∧ 0 < z ∧ z ≤ 4096
  lw : 0 ≤ mask ∧ mask ≤ 255 ∧ -9223372036854775808 ≤ left ∧ left ≤ 9223372036854775807 ∧ -9223372036854775808 ≤ whole ∧ whole ≤ 9223372036854775807
  big : K ≤ 1000000
def refVal (n z : Nat) (s : St) (db dc wb wc bb bc : Nat) (cuts : Bool) (left whole mask : Int) : Value :=
  .agg #[.int .i64 n, .int .i64 z, .slice (some ⟨db, 0, none⟩) n dc, .slice (some ⟨wb, 0, none⟩) n wc, .slice (some ⟨bb, 0, none⟩) n bc, .bool (!s.on), .int .i64 s.offs, .int .i64 s.acts, .bool cuts, .int .i64 left, .int .i64 whole, .int .u8 mask]
/-- The value v is the document's device of that state. -/
def Ref (w : World) (lo n z K : Nat) (s : St) (v : Value) : Prop :=
  ∃ db dc wb wc bb bc cuts left whole mask L LC, v = refVal n z s db dc wb wc bb bc cuts left whole mask ∧ RefP w lo n z K s db wb bb cuts left whole mask L LC ∧ n ≤ dc ∧ n ≤ wc ∧ n ≤ bc ∧ dc ≤ 9223372036854775807 ∧ wc ≤ 9223372036854775807 ∧ bc ≤ 9223372036854775807
section
variable {w w' : World} {lo n z K : Nat} {s : St} {db wb bb : Nat} {cuts : Bool} {left whole mask : Int} {L LC : Nat → Nat}
/-- It stands as long as the blocks from lo on that were there do. -/
theorem RefP.keep (h : RefP w lo n z K s db wb bb cuts left whole mask L LC) (hb : ∀ k, lo ≤ k → k < w.heap.size → w'.heap[k]? = w.heap[k]?) (hs : w.heap.size ≤ w'.heap.size) : RefP w' lo n z K s db wb bb cuts left whole mask L LC :=
  ⟨h.data.of_eq (hb _ h.data.1 h.data.lt), h.wear.of_eq (hb _ h.wear.1 h.wear.lt), h.bad.of_eq (hb _ h.bad.1 h.bad.lt), fun i hi => by
    obtain ⟨h1, h2, h3⟩ := h.rows i hi
    refine ⟨⟨h1.1, h1.2.1, fun k hk => ?_⟩, h2, Nat.lt_of_lt_of_le h3 hs⟩
    obtain ⟨b, o, e, hlt, hc⟩ := h1.2.2 k hk
    have e' : L i = b := by injection e with e; injection e
    exact ⟨b, o, e, Nat.lt_of_lt_of_le hlt hs, (World.cell?_of_block (w := w) (a := ⟨b, o + k, none⟩) (hb b (by omega) hlt)).trans hc⟩, h.cut, h.fits, h.geo, h.lw, h.big⟩
theorem RefP.more (h : RefP w lo n z K s db wb bb cuts left whole mask L LC) {K' : Nat} (hK : K ≤ K') (hb : K' ≤ 1000000) : RefP w lo n z K' s db wb bb cuts left whole mask L LC :=
  ⟨h.data, h.wear, h.bad, h.rows, h.cut, h.fits.more hK, h.geo, h.lw, hb⟩
theorem Ref.keep {v : Value} (h : Ref w lo n z K s v) (hb : ∀ k, lo ≤ k → k < w.heap.size → w'.heap[k]? = w.heap[k]?) (hs : w.heap.size ≤ w'.heap.size) : Ref w' lo n z K s v := by
  obtain ⟨db, dc, wb, wc, bb, bc, cuts, left, whole, mask, L, LC, hv, hP, hr⟩ := h
  exact ⟨db, dc, wb, wc, bb, bc, cuts, left, whole, mask, L, LC, hv, hP.keep hb hs, hr⟩
theorem Ref.more {v : Value} (h : Ref w lo n z K s v) {K' : Nat} (hK : K ≤ K') (hb : K' ≤ 1000000) : Ref w lo n z K' s v := by
  obtain ⟨db, dc, wb, wc, bb, bc, cuts, left, whole, mask, L, LC, hv, hP, hr⟩ := h
  exact ⟨db, dc, wb, wc, bb, bc, cuts, left, whole, mask, L, LC, hv, hP.more hK hb, hr⟩
/-- The same blocks, other numbers. -/
theorem RefP.turned (h : RefP w lo n z K s db wb bb cuts left whole mask L LC) {K' : Nat} {s' : St} {cuts' : Bool} {left' whole' mask' : Int} (e1 : s'.data = s.data) (e2 : s'.wear = s.wear) (e3 : s'.bad = s.bad)
    (hc : (s'.cut = none ∧ cuts' = false) ∨ (s'.cut = some (left', whole', mask') ∧ cuts' = true)) (hf : Fits n z K' s') (hl : 0 ≤ mask' ∧ mask' ≤ 255 ∧ -9223372036854775808 ≤ left' ∧ left' ≤ 9223372036854775807 ∧ -9223372036854775808 ≤ whole' ∧ whole' ≤ 9223372036854775807) (hb : K' ≤ 1000000) :
    RefP w lo n z K' s' db wb bb cuts' left' whole' mask' L LC :=
  ⟨h.data, by rw [e2]; exact h.wear, by rw [e3]; exact h.bad, fun i hi => by unfold St.row; rw [e1]; exact h.rows i hi, hc, hf, h.geo, hl, hb⟩
end

theorem Ref.of {w : World} {lo n z K : Nat} {s : St} {v : Value} {db dc wb wc bb bc : Nat} {cuts : Bool} {left whole mask : Int} {L LC : Nat → Nat} (hv : v = refVal n z s db dc wb wc bb bc cuts left whole mask) (h : RefP w lo n z K s db wb bb cuts left whole mask L LC)
    (hr : n ≤ dc ∧ n ≤ wc ∧ n ≤ bc ∧ dc ≤ 9223372036854775807 ∧ wc ≤ 9223372036854775807 ∧ bc ≤ 9223372036854775807) : Ref w lo n z K s v := ⟨db, dc, wb, wc, bb, bc, cuts, left, whole, mask, L, LC, hv, h, hr⟩
theorem RefP.below {w w' : World} {lo n z K : Nat} {s : St} {db wb bb : Nat} {cuts : Bool} {left whole mask : Int} {L LC : Nat → Nat} (h : RefP w lo n z K s db wb bb cuts left whole mask L LC) (hb : Below w.heap.size w w') : RefP w' lo n z K s db wb bb cuts left whole mask L LC :=
  h.keep (fun k _ hk => hb.block k hk) hb.size
theorem two_allocs (w : World) (o o' : Obj) : Below w.heap.size w ((w.alloc o).alloc o') := ((Below.refl _ _).alloc (Nat.le_refl _) _).alloc (by simp) _

section
variable {lo n z K : Nat} {s : St} {db wb bb : Nat} {cuts : Bool} {left whole mask : Int} {L LC : Nat → Nat}
theorem refTurn_calls (w : World) (v : Value) (h : Ref w lo n z K s v) (hK : K + 1 ≤ 1000000) :
    Calls Tryz.prog 38 #[v] w fun e w' => ∃ v', e = .returned v' ∧ Ref w' lo n z (K + 1) s.turn v' ∧ Below w.heap.size w w' := by
  obtain ⟨db, dc, wb, wc, bb, bc, cuts, left, whole, mask, L, LC, rfl, hP, hr⟩ := h
  have hf := hP.fits.turn
  have ho := hP.fits.ob
  have HP := Lib.hid hP
  have HR := Lib.hid hr
  unfold refVal
  cases hon : s.on
  · have e1 : s.turn = s := by
      unfold St.turn
      rw [if_neg (by rw [hon]; decide)]
    rw [e1] at hf ⊢
    have HF := Lib.hid hf
    have HON := Lib.hid hon
    clear hon hP hr hf e1
    go_enter Tryz.func38, Tryz.ntmps38
    go_wp2
    exact bodyPost_ret (v := refVal n z s db dc wb wc bb bc cuts left whole mask) (by simp [results, Tryz.results38, go_sem, refVal, HON.out]) rfl
      ⟨_, rfl, Ref.of rfl ((HP.out.more (by omega) hK).below (two_allocs _ _ _)) HR.out, two_allocs _ _ _⟩
  · have e1 : s.turn = { s with on := false, cut := none, offs := s.offs + 1 } := by
      unfold St.turn
      rw [if_pos hon]
    rw [e1] at hf ⊢
    have HF := Lib.hid hf
    clear hon hP hr hf e1
    go_enter Tryz.func38, Tryz.ntmps38
    go_wp2
    exact bodyPost_ret (v := refVal n z { s with on := false, cut := none, offs := s.offs + 1 } db dc wb wc bb bc false left whole mask) (by simp [results, Tryz.results38, go_sem, refVal]) rfl
      ⟨_, rfl, Ref.of rfl ((HP.out.below (two_allocs _ _ _)).turned rfl rfl rfl (.inl ⟨rfl, rfl⟩) HF.out HP.out.lw hK) HR.out, two_allocs _ _ _⟩
theorem refCut_calls (w : World) (v : Value) (h : Ref w lo n z K s v) (a b m : Int) (ha : a ≤ 9223372036854775807) (hb : b ≤ 9223372036854775807) (h0 : 0 ≤ m) (h1 : m ≤ 255) :
    Calls Tryz.prog 36 #[v, .int .i64 a, .int .i64 b, .int .u8 m] w fun e w' => ∃ v', e = .returned v' ∧ Ref w' lo n z K (s.setCut a b m) v' ∧ Below w.heap.size w w' := by
  obtain ⟨db, dc, wb, wc, bb, bc, cuts, left, whole, mask, L, LC, rfl, hP, hr⟩ := h
  have hf := hP.fits.setCut a b m ha hb h0 h1
  have HP := Lib.hid hP
  have HR := Lib.hid hr
  have HF := Lib.hid hf
  clear hP hr hf
  unfold refVal
  go_enter Tryz.func36, Tryz.ntmps36
  go_wp2
  exact bodyPost_ret (v := refVal n z (s.setCut a b m) db dc wb wc bb bc true (max a 0) (max b 0) m) (by simp [results, Tryz.results36, go_sem, refVal, St.setCut]) rfl
      ⟨_, rfl, Ref.of rfl ((HP.out.below (two_allocs _ _ _)).turned rfl rfl rfl (.inr ⟨rfl, rfl⟩) HF.out ⟨h0, h1, by omega, by omega, by omega, by omega⟩ HP.out.big) HR.out, two_allocs _ _ _⟩
end

/-- append([]T{}, row...): a new row of the same. -/
theorem wpList_append_row {P : Program} {w : World} {ops : Array Oper} {rest : List Oper} {o : Oper} {a : Act} {Q : Exit → Act → World → Prop} (hgd : o.guard = none) (s x : Operand) (t : TypeId)
    (ho : o.op = .call { callee := .builtin .append, args := #[s, x], argTypes := #[t, t] }) (base : Nat) (e : TypeId) (ht : P.underlying t = some (.slice e)) (zv : Value) (bytes : Nat) (hinfo : (P.info? e).map (fun i => (i.zero, i.size, i.bytes)) = some (some zv, 1, bytes)) (hzs : zv.cells.size = 1) (hby : bytes ≤ 24)
    (g0 : Nat) (hs : a.eval s = .slice (some ⟨g0, 0, none⟩) 0 0) (hown : w.ownsRow base e 1 (.slice (some ⟨g0, 0, none⟩) 0 0) 0 []) (lo g n c : Nat) (f : Nat → Value) (hx : a.eval x = .slice (some ⟨g, 0, none⟩) n c) (hr : Row w lo g e n f) (h1 : ∀ i, (f i).oneCell' = true)
    (hn0 : 0 < n) (hn : n ≤ 100000) (hbase : base ≤ w.heap.size)
    (h : ∀ g' cap' w', Row w' base g' e n f → n ≤ cap' → cap' ≤ 9223372036854775807 → w.grownBy w' (some g0) → (g' = g0 ∨ w.heap.size ≤ g') → wpList P ops Q rest (a.put o.dst (.slice (some ⟨g', 0, none⟩) n cap')) w') : wpList P ops Q (o :: rest) a w := by
  obtain ⟨i, hi, hz0, hz1, hz2⟩ := info_parts hinfo
  refine wpList_append_lies w hgd s x t ho base e i zv 1 bytes ht hi hz0 hz1 hz2 hzs (by omega) _ 0 [] hs hown ⟨g, 0, none⟩ n c ((List.range n).map f) hx (by simp) hr.news (fun u hu => by
    obtain ⟨j, _, rfl⟩ := List.mem_map.1 hu
    exact h1 j) hn0 (by unfold maxLen; omega) (by
      rw [Nat.zero_add]
      exact Nat.le_trans (Nat.mul_le_mul hn hby) (by decide)) hbase w.heap.size rfl ?_
  intro g' cap' w' hown' hg hat hlt
  rw [Nat.zero_add, List.nil_append] at hown'
  rw [Nat.zero_add]
  have hcap : n ≤ cap' ∧ cap' ≤ 9223372036854775807 := by
    rcases hown'.2 with ⟨h', _⟩ | ⟨g2, cap2, cur, h', _, _, h3, h4, _⟩
    · cases h'
    · injection h' with _ _ h5
      subst h5
      unfold maxLen at h4
      omega
  refine h g' cap' w' (Row.of_own hown' fun j hj => by simp [hj]) hcap.1 hcap.2 hg ?_
  rcases hat with e | e
  · exact .inl (by injection e with e; exact e.symm)
  · exact .inr (by omega)
end Go.Proofs.YthbafcihmcjchaaGreatDoor.NorP
