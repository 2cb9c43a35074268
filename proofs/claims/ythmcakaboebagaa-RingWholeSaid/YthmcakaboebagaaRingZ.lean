/- The project's Count. -/
import Derived.Test.YthmcakaboebagaaRingY
import Derived.Test.YthmcakaboebagaaRingWm
import Derived.OwnWalk
namespace Go.Proofs.Ythmcakaboebagaa.RingZ
set_option linter.unusedVariables false
set_option linter.unusedSimpArgs false
open Go.RowKit Go.Maps Go.ChangeShapes
open Go.Proofs.Ythmcakaboebagaa.Byte Go.Proofs.Ythmcakaboebagaa.RingM Go.Proofs.Ythmcakaboebagaa.RingN Go.Proofs.Ythmcakaboebagaa.RingC Go.Proofs.Ythmcakaboebagaa.RingK Go.Proofs.Ythmcakaboebagaa.RingF Go.Proofs.Ythmcakaboebagaa.RingS Go.Proofs.Ythmcakaboebagaa.RingU Go.Proofs.Ythmcakaboebagaa.RingJ Go.Proofs.Ythmcakaboebagaa.RingA Go.Proofs.Ythmcakaboebagaa.RingWm Go.Proofs.Ythmcakaboebagaa.RingY Go.Proofs.Ythmcakaboebagaa.Own

/-- Truth values of the call's own, in one block. -/
structure Bw (w : World) (base g n : Nat) (B : Nat → Bool) : Prop where
  lo : base ≤ g
  hi : g < w.heap.size
  cell : ∀ j, j < n → w.cell? ⟨g, j, none⟩ = some (.bool (B j)) ∧ w.frozen? ⟨g, j, none⟩ = false
section
variable {w w' : World} {base g n : Nat} {B : Nat → Bool}
theorem Bw.below (h : Bw w base g n B) (hb : Below w.heap.size w w') : Bw w' base g n B :=
  ⟨h.lo, Nat.lt_of_lt_of_le h.hi hb.size, fun j hj => ⟨(hb.cell (p := ⟨g, j, none⟩) h.hi).trans (h.cell j hj).1, (hb.frozen (p := ⟨g, j, none⟩) h.hi).trans (h.cell j hj).2⟩⟩
theorem Bw.far {r : Nat} (h : Bw w base g n B) (hg : w.grownBy w' (some r)) (hne : g ≠ r) : Bw w' base g n B :=
  ⟨h.lo, Nat.lt_of_lt_of_le h.hi hg.size, fun j hj => ⟨(hg.cell_far ⟨g, j, none⟩ h.hi (fun e => hne (by injection e))).trans (h.cell j hj).1, (hg.frozen_far ⟨g, j, none⟩ h.hi (fun e => hne (by injection e))).trans (h.cell j hj).2⟩⟩
theorem Bw.set_ (h : Bw w base g n B) (i : Nat) (hi : i < n) (v : Bool) : Bw (w.setCell ⟨g, i, none⟩ (.bool v)) base g n (fun j => if j = i then v else B j) := by
  refine ⟨h.lo, by rw [World.size_setCell]; exact h.hi, fun j hj => ⟨?_, by rw [World.frozen?_setCell]; exact (h.cell j hj).2⟩⟩
  by_cases e : j = i
  · subst e
    rw [if_pos rfl]
    exact World.cell?_setCell_same' _ _ _ (by rw [(h.cell j hj).1]; rfl)
  · rw [if_neg e, World.cell?_setCell_other _ _ _ _ (by intro e2; injection e2 with _ e2; exact e e2.symm)]
    exact (h.cell j hj).1
theorem Bw.bl (h : Bw w base g n B) : Own.Bl w (some ⟨g, 0, none⟩) n B := fun k hk => ⟨g, 0, rfl, h.hi, by rw [Nat.zero_add]; exact (h.cell k hk).1⟩
end
theorem below_grown {w w' : World} (hb : Below w.heap.size w w') (row : Option Nat) : w.grownBy w' row := ⟨hb.os, hb.tape, hb.output, hb.size, fun k hk _ => hb.block k hk⟩
theorem grown_new {a v v' : World} {g r : Nat} (h : a.grownBy v (some g)) (h2 : v.grownBy v' (some r)) (hr : a.heap.size ≤ r) : a.grownBy v' (some g) :=
  ⟨h2.os.trans h.os, h2.tape.trans h.tape, h2.output.trans h.output, Nat.le_trans h.size h2.size, fun k hk hne => (h2.block k (Nat.lt_of_lt_of_le hk h.size) (fun e => by injection e with e; omega)).trans (h.block k hk hne)⟩
theorem grown_set (w : World) (g i : Nat) (v : Value) : w.grownBy (w.setCell ⟨g, i, none⟩ v) (some g) :=
  ⟨rfl, rfl, rfl, by rw [World.size_setCell]; exact Nat.le_refl _, fun k _ hne => Below.heap_setCell w _ v k (fun e => hne (by rw [e]))⟩
theorem info_bool : (Try.prog.info? 4).map (fun i => (i.zero, i.size, i.bytes)) = some (some (.bool false), 1, 1) := by kernel_rfl
theorem Bw.made {w : World} {base g n cap : Nat} {e : TypeId} (h : w.ownsRow base e 1 (.slice (some ⟨g, 0, none⟩) n cap) n (madeCells (Value.bool false).cells (n * 1)).toList) : Bw w base g n (fun _ => false) := by
  have hp := h.lt g rfl
  rw [Nat.mul_one, show (Value.bool false).cells = #[.bool false] from rfl, toList_madeCells_one] at h
  refine ⟨hp.1, hp.2, fun j hj => ⟨?_, ?_⟩⟩
  · have := h.cells (g := g) rfl j (.bool false) (by simp [hj])
    rw [Addr.add_mid, Nat.zero_add] at this
    exact this
  · have := h.frozenAt (g := g) j
    simpa using this
/-- The map, as it stood behind rings. -/
theorem owns_of {H : Type} {P : Program} {k e : TypeId} {q : IntKind} {w : World} {base b n : Nat} {D : DataW H} (h : w.ownsGroups P k base e q b n D) : w.ownsMap P k (rowElem w base e q) b n D := by
  obtain ⟨es, clock, h1, h2, h3, h4, _⟩ := h
  exact ⟨es, clock, h1, h2, h3, h4⟩
theorem mem_is (L : List Fnd) (n : Nat) (s : Int) : mem L n s = (mems L n s).map (fun x => (x.val : Int)) := by
  unfold mem mems
  have e : List.range n = (List.finRange n).map (fun x => x.val) := by
    apply List.ext_getElem <;> simp
  rw [e, List.filter_map, List.map_map]
  rfl
theorem in_mems (L : List Fnd) (n : Nat) (s : Int) (x : Fin n) : x ∈ mems L n s ↔ (fn L x.val).item.seq = s := by
  unfold mems inRing
  rw [List.mem_filter]
  simp
/-- Of every ring that is no longer to come each one is told right. -/
def Done (L : List Fnd) (n : Nat) (left : Lit → Bool) (B : Nat → Bool) : Prop := ∀ i, i < n → left (.int .u64 (fn L i).item.seq) = false → B i = cnt L (fn L i)
/-- Of the first k of a ring each one is told right; the others are as they were. -/
def Part (L : List Fnd) {n : Nat} (M : List (Fin n)) (B B' : Nat → Bool) (k : Nat) : Prop := ∀ i, i < n → ((∃ (j : Nat) (x : Fin n), j < k ∧ M[j]? = some x ∧ x.val = i) → B' i = cnt L (fn L i)) ∧ ((∀ (j : Nat) (x : Fin n), j < k → M[j]? = some x → x.val ≠ i) → B' i = B i)
theorem Part.start (L : List Fnd) {n : Nat} (M : List (Fin n)) (B : Nat → Bool) : Part L M B B 0 := fun i hi => ⟨fun ⟨j, x, h, _⟩ => by omega, fun _ => rfl⟩
theorem Part.step {L : List Fnd} {n : Nat} {M : List (Fin n)} {B B' : Nat → Bool} {k : Nat} {x : Fin n} (h : Part L M B B' k) (hx : M[k]? = some x) {v : Bool} (hv : v = cnt L (fn L x.val)) : Part L M B (fun j => if j = x.val then v else B' j) (k + 1) := fun i hi => by
  dsimp only
  refine ⟨fun ⟨j, y, hj, hy, e⟩ => ?_, fun hno => ?_⟩
  · by_cases e2 : i = x.val
    · rw [if_pos e2, hv, e2]
    · rw [if_neg e2]
      refine (h i hi).1 ⟨j, y, ?_, hy, e⟩
      rcases Nat.lt_or_ge j k with h1 | h1
      · exact h1
      · obtain rfl : j = k := by omega
        rw [hx] at hy
        injection hy with hy
        subst hy
        exact absurd e.symm e2
  · have e2 : ¬ i = x.val := fun e => hno k x (by omega) hx e.symm
    rw [if_neg e2]
    exact (h i hi).2 (fun j y hj hy => hno j y (by omega) hy)
theorem Part.done {L : List Fnd} {n : Nat} {s : Int} {B B' : Nat → Bool} {left : Lit → Bool} (h : Part L (mems L n s) B B' (mems L n s).length) (hd : Done L n left B) : Done L n (fun z => left z && !z.sameKey (.int .u64 s)) B' := fun i hi hf => by
  by_cases e : (fn L i).item.seq = s
  · have hm : (⟨i, hi⟩ : Fin n) ∈ mems L n s := (in_mems L n s ⟨i, hi⟩).2 e
    obtain ⟨j, hj⟩ := List.mem_iff_getElem?.1 hm
    exact (h i hi).1 ⟨j, _, (List.getElem?_eq_some_iff.1 hj).1, hj, rfl⟩
  · have h1 := (h i hi).2 (fun j x hj hx e2 => e (by rw [← e2]; exact (in_mems L n s x).1 (List.mem_of_getElem? hx)))
    rw [h1]
    refine hd i hi ?_
    have h2 : (Lit.int IntKind.u64 (fn L i).item.seq).sameKey (.int .u64 s) = false := sameKey_ne (by intro e3; injection e3 with _ e3; exact e e3)
    simp only [h2, Bool.not_false, Bool.and_true] at hf
    exact hf
theorem cnt_is {L : List Fnd} {n : Nat} {s : Int} {r : Bool} (hr : r = true ↔ Whole L s) (x : Fin n) (hx : (fn L x.val).item.seq = s) : cnt L (fn L x.val) = ((fn L x.val).settled || r) := by
  have e : wholeB L s = r := by
    rw [Bool.eq_iff_iff]
    unfold wholeB
    simp only [decide_eq_true_eq]
    exact hr.symm
  unfold cnt
  rw [hx, e]
def CountE (L : List Fnd) (n : Nat) (w : World) (e : Ending) (w' : World) : Prop :=
  ∃ A' c', e = .returned (.slice A' n c') ∧ Own.Bl w' A' n (fun i => (L.map (cnt L)).getD i false) ∧ Below w.heap.size w w'
theorem CountE.of {L : List Fnd} {n g : Nat} {w w' : World} {B : Nat → Bool} {left : Lit → Bool} (hl : L.length = n) (hB : Bw w' w.heap.size g n B) (hd : Done L n left B) (hno : ∀ kl, left kl = false) (hb : Below w.heap.size w w') : CountE L n w (.returned (.slice (some ⟨g, 0, none⟩) n n)) w' := by
  refine ⟨_, _, rfl, fun k hk => ?_, hb⟩
  obtain ⟨b, o, e, h1, h2⟩ := hB.bl k hk
  refine ⟨b, o, e, h1, ?_⟩
  rw [h2, hd k hk (hno _)]
  have hk' : k < L.length := by omega
  simp [fn, List.getElem?_eq_getElem hk', List.getD_eq_getElem?_getD]
set_option maxRecDepth 100000 in
set_option maxHeartbeats 4000000 in
theorem count_calls (A : Option Addr) (n c : Nat) (L : List Fnd) (w : World) (hF : FsAt w A n L) (hn : n ≤ 100) (hwf : ∀ x ∈ L, wfs x.item.seq) : Calls Try.prog 11 #[.slice A n c] w (CountE L n w) := by
  obtain ⟨i0, hi, hz0, hz1, hz2⟩ := info_parts info_bool
  have HF := Lib.hid hF
  have HW := Lib.hid hwf
  have hl := hF.1
  have HL := Lib.hid hl
  clear hF hwf hl
  go_enter Try.func11, Try.ntmps11
  go_wp2_with ((with_reducible refine pick (some 11) ?_); refine wpList_make_full w rfl _ _ 27 rfl w.heap.size 4 i0 _ 1 Try.underlying27 hi hz0 hz1 .i64 .i64 n n n rfl rfl rfl rfl (by rw [hz2]; omega) (by unfold maxLen; omega) (Nat.le_refl _) ?_; intro w1 hown1 hg1)
  have HB1 : Hid (Below w.heap.size w w1) := Lib.hid ((Below.refl _ _).grown hg1 (Nat.le_refl _) (fun k e => by cases e))
  have HW1 : Hid (Bw w1 w.heap.size w.heap.size n (fun _ => false)) := Lib.hid (Bw.made hown1)
  have hws := HW1.out.hi
  clear hown1 hg1 hi hz0 hz1 hz2
  refine (rings_calls A L n c w1 (by omega) (HF.out.below HB1.out) HW.out).mono ?_
  rintro e w2 ⟨D, rfl, hown2, hG, hb2⟩
  have HG := Lib.hid hG
  have HB2 := Lib.hid (keeps HB1.out hb2)
  have HW2 := Lib.hid (HW1.out.below hb2)
  have hz2 := hb2.size
  have hblt := (owns_of hown2).lt
  have HR := Lib.hid (owns_of hown2)
  clear hG hb2 hown2
  obtain ⟨R, hR⟩ : ∃ R, rowElem (H := Unit) w2 (w1.heap.size + 1) 3 .i64 = R := ⟨_, rfl⟩
  rw [hR] at HR
  have HRR := Lib.hid hR
  clear hR
  go_wp2_with (first
    | (at_range; refine wpList_range_own _ rfl _ 55 rfl 25 57 law Try.underlying55 R w1.heap.size n D rfl HR.out ?_; intro w3 hrg0 hg0 hs0)
    | go_in)
  go_frame
  have hd0 : Done L n (Maps.has D) (fun _ => false) := fun i hi hf => by
    exfalso
    have hil : i < L.length := by rw [HL.out]; exact hi
    have hin : fn L i ∈ L := by unfold fn; rw [List.getElem?_eq_getElem hil]; exact List.getElem_mem hil
    have h1 := (HG.out.has _ (HW.out _ hin)).2 (by
      rw [mem_is]
      intro e
      have := (in_mems L n (fn L i).item.seq ⟨i, hi⟩).2 rfl
      rw [List.map_eq_nil_iff] at e
      rw [e] at this
      cases this)
    rw [h1] at hf
    cases hf
  have HD0 := Lib.hid hd0
  have hw3 : Bw w3 w.heap.size w.heap.size n (fun _ => false) := HW2.out.far (hg0.but (some w3.heap.size)) (by omega)
  have HW3 := Lib.hid hw3
  have hg3 := hg0.but (some w.heap.size)
  clear hd0 hw3 hg0 hs0
  go_loopw [5] (fun _ wr => ∃ (left : Lit → Bool) (cn : Nat) (B : Nat → Bool), wr.ranges Try.prog 25 R w1.heap.size w2.heap.size n D left cn ∧ Bw wr w.heap.size w.heap.size n B ∧ w2.grownBy wr (some w.heap.size) ∧ Hid (Done L n left B)) (fun _ wr => wr.rangeLeft w1.heap.size w2.heap.size)
  case atStart => exact ⟨_, _, _, hrg0, HW3.out, hg3, HD0⟩
  case round =>
    obtain ⟨left, cn, B, hrg, hbw, hgw, HD⟩ := hrel
    have HBW := Lib.hid hbw
    have HGW := Lib.hid hgw
    clear hbw hgw hrg0 hg3
    go_wp2_with (first
      | (at_next; refine wpList_next_ranges _ rfl _ rfl 25 law R (Value.int .u64) (fun v => v) (fun key kl hk => by obtain ⟨x, rfl, _⟩ := Maps.keyOf_int_inv Try.underlying25 hk; exact ⟨x, rfl⟩) (fun v _ _ => ⟨v, rfl⟩) w1.heap.size w2.heap.size n _ _ _ rfl hrg ?_ ?_)
      | go_in)
    · intro hc0 hl0
      have HL0 := Lib.hid hl0
      clear hl0 hc0
      go_wp2_with fail
      go_ret
      exact CountE.of HL.out HBW.out HD.out HL0.out (HB2.out.grown HGW.out HB2.out.size (by intro k hk; injection hk with hk; omega))
    · intro s v kl yd yp w4 cn2 hkey hlk hv hat hrg1 hlt hg1 hs1 hen
      obtain ⟨s', es, rfl, hwfs⟩ := Maps.keyOf_int_inv Try.underlying25 hkey
      injection es with _ es
      subst es
      have hs : wfs s := by
        have := bounds_u64 hwfs
        exact ⟨this.1, by have := this.2; omega⟩
      rw [← HRR.out] at hv
      obtain ⟨zs, hoi, hy⟩ := rowElem_inv hv
      injection hy with hy1 hy2
      rw [hy1] at hat
      have hzs := HG.out.owned hs hoi (hat .nil)
      have hne : mem L n s ≠ [] := (HG.out.has s hs).1 (Maps.has_true_of_atKey hat)
      rw [mem_is] at hzs hne
      obtain ⟨M, hM⟩ : ∃ M, mems L n s = M := ⟨_, rfl⟩
      have HM := Lib.hid hM
      rw [hM] at hzs hne
      have hpos : 0 < M.length := by
        rcases Nat.eq_zero_or_pos M.length with h | h
        · rw [List.length_eq_zero_iff] at h
          rw [h] at hne
          exact absurd rfl hne
        · exact h
      have hzl : zs.length = M.length := by rw [hzs, List.length_map]
      obtain ⟨gv, cv, rfl, hgv1, hgv2⟩ := hoi.1.form (by omega)
      rw [hzl] at hoi hen ⊢
      have hml : M.length ≤ n := by
        rw [← hM]
        have := List.length_filter_le (fun j : Fin n => inRing s (fn L j.val)) (List.finRange n)
        rw [List.length_finRange] at this
        exact this
      have hgw4 := grown_new HGW.out hg1 (Nat.le_refl _)
      have HGW4 := Lib.hid hgw4
      have HB4 := Lib.hid (HB2.out.grown hgw4 HB2.out.size (by intro k hk; injection hk with hk; omega))
      have HC4 : Hid (∀ j (x : Fin n), M[j]? = some x → w4.cell? ⟨gv, j, none⟩ = some (.int .i64 (x.val : Int))) := Lib.hid (fun j x hx => by
        have hj : j < M.length := (List.getElem?_eq_some_iff.1 hx).1
        have hc := hoi.1.cells (g := gv) rfl j (.int .i64 (x.val : Int)) (by rw [hzs]; simp [hx])
        rw [Addr.add_mid, Nat.zero_add] at hc
        exact (hgw4.cell_far ⟨gv, j, none⟩ hgv2 (fun e => by have e2 : gv = w.heap.size := (by injection e); omega)).trans hc)
      have HW4 := Lib.hid (HBW.out.far hg1 (by omega))
      have HRG := Lib.hid hrg1
      have hz4 : w2.heap.size ≤ w4.heap.size := hgw4.size
      have HLT := Lib.hid hlt
      have HRG0 := Lib.hid hrg
      clear hkey hlk hv hat hrg1 hlt hg1 hs1 hwfs hoi hy2 hy1 hzs hne hgw4 hrg hM hzl
      obtain ⟨x0, hx0⟩ : ∃ x0, M[0]? = some x0 := ⟨_, List.getElem?_eq_getElem hpos⟩
      haveI : Inhabited (Fin n) := ⟨x0⟩
      have hn0 : 0 < n := by omega
      have hL0 : 0 < L.length := by rw [HL.out]; exact hn0
      obtain ⟨b, o, rfl, hbl, hcc⟩ := HF.out.2 0 _ (List.getElem?_eq_getElem hL0)
      have HF4 := Lib.hid (HF.out.below HB4.out)
      have hbs := HB4.out.size
      have HCW := Lib.hid (whole_calls L c b o gv 0 cv M w4 (by omega) hpos (by omega) (by omega) HF4.out (by omega) (fun j x hx => by rw [Nat.zero_add]; exact HC4.out j x hx))
      clear hcc hx0 hL0
      go_wp2_with fail
      refine HCW.out.mono ?_
      rintro e w5 ⟨M', r, rfl, hp, hrise, hr, hb5⟩
      have HK : Hid (∀ (j : Nat) (x : Fin n), M[j]? = some x → cnt L (fn L x.val) = ((fn L x.val).settled || r)) := Lib.hid (fun j x hx => by
        have hm := HM.out
        subst hm
        exact cnt_is (hr.trans (whole_iff L HL.out s M' hp hrise hpos)) x ((in_mems L n s x).1 (List.mem_of_getElem? hx)))
      have HB5 := Lib.hid hb5
      have HF5 := Lib.hid (HF4.out.below hb5)
      have HW5 := Lib.hid (HW4.out.below hb5)
      have HGW5 := Lib.hid (HGW4.out.trans (below_grown hb5 (some w.heap.size)))
      have HRG5 := Lib.hid (HRG.out.kept (below_grown hb5 none) (by simp) (by simp))
      have HC5 : Hid (∀ j (x : Fin n), M[j]? = some x → w5.cell? ⟨gv, j, none⟩ = some (.int .i64 (x.val : Int))) := Lib.hid (fun j x hx => (hb5.cell (p := ⟨gv, j, none⟩) (by show gv < w4.heap.size; omega)).trans (HC4.out j x hx))
      have hz5 := hb5.size
      clear hp hrise hr hb5
      go_wp2_with fail
      obtain ⟨len, hlen⟩ : ∃ len, M.length = len := ⟨_, rfl⟩
      have HLEN := Lib.hid hlen
      rw [hlen] at hpos hml ⊢
      clear hlen
      go_loopw [24] (fun i wr5 => ∃ (k : Nat) (B' : Nat → Bool), k ≤ len ∧ i = .int .i64 k ∧ Bw wr5 w.heap.size w.heap.size n B' ∧ w5.grownBy wr5 (some w.heap.size) ∧ Hid (Part L M B B' k)) (fun i _ => len - (intOf i).toNat)
      case atStart => exact ⟨0, B, Nat.zero_le _, rfl, HW5.out, World.grownBy.refl _ _, Lib.hid (Part.start L M B)⟩
      case round =>
        obtain ⟨k, B', hk, rfl, hbw5, hgw5, HP⟩ := hrel
        have HBW5 := Lib.hid hbw5
        have HGW6 := Lib.hid hgw5
        by_cases hlt2 : k < len
        · have hkM : k < M.length := by rw [HLEN.out]; exact hlt2
          obtain ⟨x, hx⟩ : ∃ x, M[k]? = some x := ⟨_, List.getElem?_eq_getElem hkM⟩
          have hxn := x.isLt
          have hxl : x.val < L.length := by rw [HL.out]; exact hxn
          have ex : L[x.val]? = some (fn L x.val) := by unfold fn; rw [List.getElem?_eq_getElem hxl]; rfl
          have cx := (hgw5.cell_far ⟨gv, k, none⟩ (by show gv < w5.heap.size; omega) (fun e => by have e2 : gv = w.heap.size := (by injection e); omega)).trans (HC5.out k x hx)
          have cs := (hgw5.cell_far ⟨b, o + x.val * 11 + 2, none⟩ (by show b < w5.heap.size; omega) (fun e => by have e2 : b = w.heap.size := (by injection e); omega)).trans ((HF5.out.at_ x.val _ ex).2 2 (.bool (fn L x.val).settled) rfl)
          have hstep := HP.out.step hx (HK.out k x hx).symm
          obtain ⟨cg, fg⟩ := hbw5.cell x.val hxn
          have hset := hbw5.set_ x.val hxn ((fn L x.val).settled || r)
          have hgs := hgw5.trans (grown_set _ w.heap.size x.val (.bool ((fn L x.val).settled || r)))
          obtain ⟨xi, hxi⟩ : ∃ xi, x.val = xi := ⟨_, rfl⟩
          rw [hxi] at cx cs hstep cg fg hset hgs hxn
          obtain ⟨st, hst⟩ : ∃ st, (fn L xi).settled = st := ⟨_, rfl⟩
          rw [hst] at cs hstep hset hgs
          have hxni : (xi : Int) < n := by omega
          cases r
          · rw [Bool.or_false] at hstep hset hgs
            have HSTEP := Lib.hid hstep
            have HSET := Lib.hid hset
            have HGS := Lib.hid hgs
            clear hstep hset hgs hbw5 hgw5 hx ex hxi hst hxl hkM
            go_wp2_with fail
            go_roundw
            case rel => exact ⟨k + 1, _, by omega, by go_num, HSET.out, HGS.out, HSTEP⟩
            case measure => simp [intOf]; omega
          · rw [Bool.or_true] at hstep hset hgs
            have HSTEP := Lib.hid hstep
            have HSET := Lib.hid hset
            have HGS := Lib.hid hgs
            clear hstep hset hgs hbw5 hgw5 hx ex hxi hst hxl hkM
            go_wp2_with fail
            go_roundw
            case rel => exact ⟨k + 1, _, by omega, by go_num, HSET.out, HGS.out, HSTEP⟩
            case measure => simp [intOf]; omega
        · obtain rfl : k = len := by omega
          have HDONE : Hid (Done L n (fun z => left z && !z.sameKey (.int .u64 s)) B') := Lib.hid (by
            have hp2 := HP.out
            have hm := HM.out
            subst hm
            rw [← HLEN.out] at hp2
            exact hp2.done HD.out)
          have HRG6 := Lib.hid (HRG5.out.kept hgw5 (by intro e; injection e with e; omega) (by intro e; injection e with e; omega))
          clear hbw5 hgw5
          go_wp2_with fail
          go_roundw
          case rel => exact ⟨_, cn2, B', HRG6.out, HBW5.out, HGW5.out.trans HGW6.out, HDONE⟩
          case measure => rw [HRG6.out.left_eq, HRG0.out.left_eq]; exact HLT.out
end Go.Proofs.Ythmcakaboebagaa.RingZ
