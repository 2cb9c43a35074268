/- What counts of a linked ring, whole and without one of it: plain mathematics; a row of found items of the call's own, one of them settled. -/
import Derived.Test.YthmcakaboebagaaRingWl
import Derived.Test.YthmcakaboebagaaRingZ
namespace Go.Proofs.Ythmcakaboebagaa.RingWn
set_option linter.unusedVariables false
open Go.RowKit
open Go.Proofs.Ythmcakaboebagaa.Byte Go.Proofs.Ythmcakaboebagaa.PlaceM Go.Proofs.Ythmcakaboebagaa.PlaceV Go.Proofs.Ythmcakaboebagaa.PlaceG Go.Proofs.Ythmcakaboebagaa.RingM Go.Proofs.Ythmcakaboebagaa.RingN Go.Proofs.Ythmcakaboebagaa.RingC Go.Proofs.Ythmcakaboebagaa.RingK Go.Proofs.Ythmcakaboebagaa.RingF Go.Proofs.Ythmcakaboebagaa.RingS Go.Proofs.Ythmcakaboebagaa.RingD Go.Proofs.Ythmcakaboebagaa.RingWl Go.Proofs.Ythmcakaboebagaa.RingWm Go.Proofs.Ythmcakaboebagaa.Rw Go.Proofs.Ythmcakaboebagaa.Own

theorem mem_fdl {seq : Int} {n : Nat} {ps : Nat → Pa} {x : Fnd} (h : x ∈ (List.range n).map (fdl seq n ps)) : ∃ j, j < n ∧ fdl seq n ps j = x := by
  obtain ⟨j, hj, e⟩ := List.mem_map.1 h
  exact ⟨j, List.mem_range.1 hj, e⟩
theorem ring_all (L : List Fnd) (s : Int) (h : ∀ x ∈ L, x.item.seq = s) : L.countP (inRing s) = L.length := by
  rw [List.countP_eq_length]
  intro x hx
  unfold inRing
  simpa using h x hx
theorem whole_linked (seq : Int) (n : Nat) (ps : Nat → Pa) (h0 : 0 < n) (hn : n ≤ 100) : Whole ((List.range n).map (fdl seq n ps)) seq := by
  have hc : ((List.range n).map (fdl seq n ps)).countP (inRing seq) = n := by
    rw [ring_all _ seq (fun x hx => by obtain ⟨j, _, rfl⟩ := mem_fdl hx; rfl)]
    simp
  refine ⟨fun x hx _ => ?_, fun i hi => ?_, fun x hx y hy _ _ he => ?_⟩
  · rw [hc]
    obtain ⟨j, _, rfl⟩ := mem_fdl hx
    rfl
  · rw [hc] at hi
    rw [List.countP_map]
    have e : (inAt seq i ∘ fdl seq n ps) = (fun j : Nat => decide ((j : Int) = (i : Int))) := by
      funext j
      show decide (seq = seq ∧ (j : Int) = (i : Int)) = _
      simp
    rw [e]
    exact count_range_one n i hi
  · rw [hc] at he
    obtain ⟨j, hj, rfl⟩ := mem_fdl hx
    obtain ⟨l, hl, rfl⟩ := mem_fdl hy
    have he2 : (l : Int) = ((j : Int) + 1) % (n : Int) := he
    have he3 : (j + 1) % n = l := by
      have : ((j : Int) + 1) % (n : Int) = (((j + 1) % n : Nat) : Int) := by rw [show ((j : Int) + 1) = ((j + 1 : Nat) : Int) by omega]; rfl
      omega
    show ceq (fl ((j + 1) % n)) (fo ((j + 1) % n)) (fl l) (fo l) = true
    rw [he3]
    have o1 : FloatKind.f64.format.order (fl l) (fl l) = some .eq := order_fi _ (by omega) (by omega)
    have o2 : FloatKind.f64.format.order (fo l) (fo l) = some .eq := order_fi _ (by omega) (by omega)
    unfold ceq
    rw [o1, o2]
    rfl
open Classical in
theorem cnt_linked (seq : Int) (n : Nat) (ps : Nat → Pa) (h0 : 0 < n) (hn : n ≤ 100) (i : Nat) (hi : i < n) :
    (((List.range n).map (fdl seq n ps)).map (cnt ((List.range n).map (fdl seq n ps)))).getD i false = true := by
  rw [List.getD_eq_getElem?_getD, List.getElem?_map, List.getElem?_map, List.getElem?_range hi]
  show (false || wholeB _ seq) = true
  unfold wholeB
  rw [Bool.false_or, decide_eq_true_eq]
  exact whole_linked seq n ps h0 hn
open Classical in
/-- Of a ring that lacks some, those count that are settled. -/
theorem cnt_lacks (M : List Fnd) (m n : Nat) (seq : Int) (hm : M.length = m) (h : m < n) (hs : ∀ x ∈ M, x.item.seq = seq) (hc : ∀ x ∈ M, x.item.count = n) (x : Fnd) (hx : x ∈ M) : cnt M x = x.settled := by
  unfold cnt
  have e : wholeB M x.item.seq = false := by
    unfold wholeB
    rw [decide_eq_false_iff_not]
    rintro ⟨h1, _⟩
    have := h1 x hx rfl
    rw [hc x hx, hs x hx, ring_all M seq hs, hm] at this
    omega
  rw [e, Bool.or_false]
/-- The item number j of a ring that lacks number k. -/
def lf (seq : Int) (n : Nat) (ps : Nat → Pa) (k j : Nat) : Fnd := fdl seq n ps (if j < k then j else j + 1)
/-- The same, the first i of them settled or not. -/
def mk (S : Nat → Bool) (G : Nat → Fnd) (i j : Nat) : Fnd := if j < i then { G j with settled := S j } else G j
theorem less_is (seq : Int) (n m : Nat) (ps : Nat → Pa) (k : Nat) (hk : k < n) (hm : m + 1 = n) :
    ((List.range n).map (fdl seq n ps)).take k ++ ((List.range n).map (fdl seq n ps)).drop (k + 1) = (List.range m).map (lf seq n ps k) := by
  apply List.ext_getElem?
  intro j
  rcases Nat.lt_or_ge j k with h | h
  · rw [List.getElem?_append_left (by simp; omega), List.getElem?_take_of_lt h, List.getElem?_map, List.getElem?_map, List.getElem?_range (by omega), List.getElem?_range (by omega)]
    rw [Option.map_some, Option.map_some, lf, if_pos h]
  · rw [List.getElem?_append_right (by simp; omega), List.getElem?_drop, List.length_take, List.length_map, List.length_range, Nat.min_eq_left (by omega), List.getElem?_map, List.getElem?_map, show k + 1 + (j - k) = j + 1 by omega]
    rcases Nat.lt_or_ge j m with h2 | h2
    · rw [List.getElem?_range (by omega), List.getElem?_range h2]
      rw [Option.map_some, Option.map_some, lf, if_neg (by omega)]
    · rw [List.getElem?_eq_none (by simp; omega), List.getElem?_eq_none (by simp; omega), Option.map_none, Option.map_none]
theorem mk_settled (seq : Int) (n m : Nat) (ps : Nat → Pa) (k : Nat) (S : Nat → Bool) (hm : m + 1 = n) (i : Nat) (hi : i < m) :
    (((List.range m).map (mk S (lf seq n ps k) m)).map (cnt ((List.range m).map (mk S (lf seq n ps k) m)))).getD i false = S i := by
  have hall : ∀ x ∈ (List.range m).map (mk S (lf seq n ps k) m), x.item.seq = seq ∧ x.item.count = n := by
    intro x hx
    obtain ⟨j, hj, rfl⟩ := List.mem_map.1 hx
    have hj := List.mem_range.1 hj
    unfold mk
    rw [if_pos hj]
    exact ⟨rfl, rfl⟩
  have e : (List.range m)[i]? = some i := List.getElem?_range hi
  rw [List.getD_eq_getElem?_getD, List.getElem?_map, List.getElem?_map, e]
  show cnt _ (mk S (lf seq n ps k) m i) = S i
  rw [cnt_lacks _ m n seq (by simp) (by omega) (fun x hx => (hall x hx).1) (fun x hx => (hall x hx).2) _ (List.mem_map.2 ⟨i, List.mem_range.2 hi, rfl⟩)]
  unfold mk
  rw [if_pos hi]
theorem mk_seq (seq : Int) (n m : Nat) (ps : Nat → Pa) (k : Nat) (S : Nat → Bool) : ∀ x ∈ (List.range m).map (mk S (lf seq n ps k) m), x.item.seq = seq := by
  intro x hx
  obtain ⟨j, hj, rfl⟩ := List.mem_map.1 hx
  unfold mk
  split <;> rfl
/-- A row of found items of the call's own, as structs. -/
theorem ow_of {w : World} {base g n cap : Nat} {F : Nat → Fnd} (h : Fo w base g n cap ((List.range n).map F)) : Ow w base g n 11 (fun j => (F j).cells) := by
  refine ⟨h.place.1, h.place.2, fun j hj => ?_, fun j hj => ?_⟩
  · rw [Nat.zero_add]
    refine ⟨?_, h.2.frozenAt j⟩
    rw [h.2.cellAt j hj]
    have hl := h.2.1
    rw [List.getElem?_eq_getElem (by omega)]
    rfl
  · have := (h.fs.at_ j (F j) (by rw [List.getElem?_map, List.getElem?_range hj]; rfl)).2
    rw [Nat.zero_add] at this
    exact this
theorem fs_of {w : World} {base g n : Nat} {F : Nat → Fnd} (h : Ow w base g n 11 (fun j => (F j).cells)) : FsAt w (some ⟨g, 0, none⟩) n ((List.range n).map F) := by
  refine ⟨by simp, fun j x hj => ?_⟩
  rcases Nat.lt_or_ge j n with h2 | h2
  · rw [List.getElem?_map, List.getElem?_range h2] at hj
    injection hj with hj
    subst hj
    refine ⟨g, 0, rfl, h.hi, ?_⟩
    rw [Nat.zero_add]
    exact h.cells j h2
  · rw [List.getElem?_eq_none (by simpa using h2)] at hj
    cases hj
theorem cell_inj {i a b c d : Nat} {g : Nat} (hb : b < 11) (hd : d < 11) (h : (⟨g, a * 11 + b, none⟩ : Addr) = ⟨g, c * 11 + d, none⟩) : a = c ∧ b = d := by
  injection h with _ h
  omega
theorem ow_settle {w : World} {base g n : Nat} {S : Nat → Bool} {G : Nat → Fnd} {i : Nat} (h : Ow w base g n 11 (fun j => (mk S G i j).cells)) (hi : i < n) :
    Ow (w.setCell ⟨g, i * 11 + 2, none⟩ (.bool (S i))) base g n 11 (fun j => (mk S G (i + 1) j).cells) := by
  refine ⟨h.lo, by rw [World.size_setCell]; exact h.hi, fun j hj => ?_, fun j hj q v hv => ?_⟩
  · have := h.there j hj
    refine ⟨?_, by rw [World.frozen?_setCell]; exact this.2⟩
    by_cases e : (⟨g, 0 + j, none⟩ : Addr) = ⟨g, i * 11 + 2, none⟩
    · rw [e, World.cell?_setCell_same' _ _ _ (by rw [← e]; exact this.1)]
      rfl
    · rw [World.cell?_setCell_other _ _ _ _ (fun e2 => e e2.symm)]
      exact this.1
  · have hq : q < 11 := by
      have := (List.getElem?_eq_some_iff.1 hv).1
      rwa [cells_len] at this
    have hthere := h.there (i * 11 + 2) (by omega)
    rw [Nat.zero_add] at hthere
    by_cases e : (⟨g, j * 11 + q, none⟩ : Addr) = ⟨g, i * 11 + 2, none⟩
    · obtain ⟨rfl, rfl⟩ := cell_inj (i := 0) hq (by omega) e
      rw [World.cell?_setCell_same' _ _ _ hthere.1]
      unfold mk at hv
      rw [if_pos (by omega)] at hv
      exact hv
    · rw [World.cell?_setCell_other _ _ _ _ (fun e2 => e e2.symm)]
      refine h.cells j hj q v ?_
      unfold mk at hv ⊢
      by_cases h1 : j < i
      · rw [if_pos (by omega)] at hv
        rw [if_pos h1]
        exact hv
      · rw [if_neg h1]
        by_cases h2 : j < i + 1
        · obtain rfl : j = i := by omega
          rw [if_pos h2] at hv
          have hq2 : q ≠ 2 := fun e2 => e (by rw [e2])
          rcases q with _ | _ | _ | q
          · exact hv
          · exact hv
          · exact absurd rfl hq2
          · exact hv
        · rw [if_neg h2] at hv
          exact hv
theorem slice_from {w : World} {g n cap q : Nat} (hq : q + 1 ≤ n) (hc : n ≤ cap) : ∃ of, (∀ (L : List Fnd) (v : World), FsAt v (some ⟨g, 0, none⟩) n L → FsAt v (some ⟨g, of, none⟩) (n - (q + 1)) (L.drop (q + 1))) ∧ ∀ v : World, (Instr.sliceAt 28 (.slice (some ⟨g, 0, none⟩) n cap) (some (.int .i64 ((q : Int) + 1))) none none).run Try.prog v = .ok (.slice (some ⟨g, of, none⟩) (n - (q + 1)) (cap - (q + 1))) v := by
  refine ⟨if cap = q + 1 then 0 else (q + 1) * 11, fun L v h => ?_, fun v => ?_⟩
  · by_cases e : cap = q + 1
    · rw [if_pos e]
      have e2 : n - (q + 1) = 0 := by omega
      have e3 : L.drop (q + 1) = [] := List.drop_eq_nil_of_le (by rw [h.1]; omega)
      rw [e2, e3]
      exact FsAt.nil_ _ _
    · rw [if_neg e]
      have := h.drop (q + 1)
      rw [Nat.zero_add] at this
      exact this
  · have hs : (sizeOf (Try.prog.elem 28)).run Try.prog v = .ok 11 v := by kernel_rfl
    have hT : Try.prog.underlying 28 = some (.slice (Try.prog.elem 28)) := by kernel_rfl
    have r := run_slice_l (P := Try.prog) (w := v) 28 (some ⟨g, 0, none⟩) n cap hT .i64 ((q : Int) + 1) (by omega) (by omega)
    rw [hs] at r
    rw [run_sliceAt_slice (h := hT), r]
    show Result.ok _ v = _
    unfold sliced
    rw [show ((q : Int) + 1).toNat = q + 1 by omega]
    by_cases e : cap = q + 1
    · rw [if_pos e, if_pos e]
    · rw [if_neg e, if_neg e]
      show Result.ok (Value.slice (some ((⟨g, 0, none⟩ : Addr).add ((q + 1) * 11))) _ _) v = _
      rw [Addr.add_mid, Nat.zero_add]
end Go.Proofs.Ythmcakaboebagaa.RingWn
