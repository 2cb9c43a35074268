/- The contracts of the document's answer for layer 10: rows of pairs. -/
import Derived.Test.YtbdokofdbeccdaaDoorTreeM
import Derived.Test.YtbdokofdbeccdaaDoorLst
import Derived.Test.YtbdokofdbeccdaaDoorProg
import Derived.WalkKit
import Derived.WalkSpells
import Derived.WalkLawsBesides
import Derived.BigGuardPart
import Derived.LoopTactic
namespace Go.Proofs.YtbdokofdbeccdaaDoor.TreeR
set_option linter.unusedVariables false
set_option linter.unusedSimpArgs false
open Go.RowKit
open Go.Proofs.YtbdokofdbeccdaaDoor.Byte Go.Proofs.YtbdokofdbeccdaaDoor.KeysM Go.Proofs.YtbdokofdbeccdaaDoor.TreeM Go.Proofs.YtbdokofdbeccdaaDoor.Own Go.Proofs.YtbdokofdbeccdaaDoor.Rw Go.Proofs.YtbdokofdbeccdaaDoor.Lst

def prE : Enc Pr := ⟨fun p => [.string p.key, .string p.value, .bool p.gone], 3, fun _ => rfl, fun x u hu => by
  simp only [List.mem_cons, List.mem_nil_iff, or_false] at hu
  rcases hu with rfl | rfl | rfl <;> rfl, by decide⟩
theorem info_pair : (Tryd.prog.info? 79).map (fun i => (i.zero, i.size, i.bytes)) = some (some (.agg #[.string ⟨#[]⟩, .string ⟨#[]⟩, .bool false]), prE.size, 40) := by kernel_rfl
theorem info_pair3 : (Tryd.prog.info? 79).map (·.size) = some 3 := by kernel_rfl
/-- The call answers with a new row of these pairs; nothing that was there has changed. -/
def Made (L : List Pr) (w : World) (e : Ending) (w' : World) : Prop := ∃ v, e = .returned v ∧ So prE 79 w' w.heap.size v L.length L ∧ Below w.heap.size w w'
theorem Made.of {L : List Pr} {w w' : World} {e : Ending} {v : Value} {n : Nat} {M : List Pr} (he : e = .returned v) (ho : So prE 79 w' w.heap.size v n M) (hM : M = L) (hb : Below w.heap.size w w') : Made L w e w' := by
  subst hM
  exact ⟨v, he, by rw [ho.1]; exact ho, hb⟩
theorem pair_cells {w : World} {b o k : Nat} {x : Pr} (h : w.rangeAt b (o + k * prE.size) (prE.cells x)) : w.cell? ⟨b, o + k * 3, none⟩ = some (.string x.key) ∧ w.cell? ⟨b, o + k * 3 + 1, none⟩ = some (.string x.value) ∧ w.cell? ⟨b, o + k * 3 + 2, none⟩ = some (.bool x.gone) ∧ w.rangeAt b (o + k * 3) [.string x.key, .string x.value, .bool x.gone] :=
  ⟨h 0 _ rfl, h 1 _ rfl, h 2 _ rfl, h⟩
theorem own_len {v : Value} {n : Nat} {L M : List Pr} {w : World} {base : Nat} (h : So prE 79 w base v n L) (e : L = M) : So prE 79 w base v M.length M := by
  subst e
  rw [h.1]
  exact h
theorem below_app {w wr w' : World} {v : Value} {n : Nat} {L : List Pr} (hb : Below w.heap.size w wr) (ho : So prE 79 wr w.heap.size v n L) {x : Obj} (hg : (wr.alloc x).grownBy w' v.ownBlock) : Below w.heap.size w w' :=
  (hb.alloc hb.size x).grown hg (by have := hb.size; simp; omega) (fun g hv => (ho.lt hv).1)
theorem eq_list (a b : ByteArray) : (a.toList == b.toList) = decide (a = b) := by
  rw [show a.toList = a.data.toList from ByteArray.toList_eq a, show b.toList = b.data.toList from ByteArray.toList_eq b, Bool.eq_iff_iff, beq_iff_eq, decide_eq_true_eq]
  constructor
  · intro h
    exact ByteArray.ext (Array.ext' h)
  · rintro rfl
    rfl
set_option maxRecDepth 100000 in
set_option maxHeartbeats 2000000 in
theorem refcut_calls (A : Option Addr) (n c : Nat) (L : List Pr) (key : ByteArray) (w : World) (hl : Sl prE w A n L) (hn : n ≤ 100000) :
    Calls Tryd.prog 15 #[.slice A n c, .string key] w (Made (cutL key L) w) := by
  have HL := Lib.hid hl
  clear hl
  go_enter Tryd.func15, Tryd.ntmps15
  go_wp2
  go_loopw [5, 10] (fun v i wr => ∃ k : Nat, k ≤ n ∧ i = .int .i64 k ∧ So prE 79 wr w.heap.size v (cutL key (L.take k)).length (cutL key (L.take k)) ∧ Below w.heap.size w wr) (fun _ i _ => n - (intOf i).toNat)
  case atStart => exact ⟨0, Nat.zero_le _, rfl, So.new_ _ _ _ (Nat.le_refl _), (Below.refl _ _).alloc (Nat.le_refl _) _⟩
  case round =>
    obtain ⟨k, hk, rfl, hrow, hbel⟩ := hrel
    by_cases hlt : k < n
    · obtain ⟨x, g, o, hx, rfl, hg, hc⟩ := (HL.out.below hbel).get k hlt
      obtain ⟨c0, c1, c2, hc3⟩ := pair_cells hc
      have HC := Lib.hid hc3
      have HRW := Lib.hid hrow
      have HBL := Lib.hid hbel
      have HN := Lib.hid (cut_next hx key)
      have hm : (cutL key (L.take k)).length ≤ 100000 := by
        have h1 : (cutL key (L.take k)).length ≤ (L.take k).length := List.length_filter_le _ _
        have h2 : (L.take k).length ≤ k := List.length_take_le _ _
        omega
      have hbs := hbel.size
      generalize cutL key (L.take k) = R at HRW HN hm
      generalize hR : cutL key (L.take (k + 1)) = R' at HN
      have hR' := Lib.hid hR
      clear hc hc3 hrow hbel hx hR
      cases h1 : (x.key.toList == key.toList) with
      | true =>
        have hk1 : decide (x.key = key) = true := (eq_list _ _).symm.trans h1
        rw [hk1] at HN
        have HN2 : Hid (R' = R) := Lib.hid (by rw [HN.out]; simp)
        clear hk1
        go_wp2
        go_roundw
        case rel => exact ⟨k + 1, by omega, by go_num, by rw [hR'.out, HN2.out]; exact HRW.out, HBL.out⟩
        case measure => simp [intOf]; omega
      | false =>
        have hk1 : decide (x.key = key) = false := (eq_list _ _).symm.trans h1
        rw [hk1] at HN
        have HN2 : Hid (R ++ [x] = R') := Lib.hid (by rw [HN.out]; simp)
        clear hk1
        go_wp2_with ((with_reducible refine pick (some 26) ?_); refine wpList_append_lst prE 79 rfl _ _ _ rfl Tryd.underlying29 info_pair rfl w.heap.size _ _ _ rfl (HRW.out.below ((Below.refl _ _).alloc (Nat.le_refl _) _)) wr.heap.size 0 1 1 [x] rfl (Sl.new_ prE wr _ x _ rfl) _ rfl _ HN2.out (by unfold maxLen; omega) (by omega) (by simp; omega) ?_; intro v' w2 ho2 hg2 _ _)
        have HO2 := Lib.hid ho2
        have HB2 := Lib.hid (below_app HBL.out HRW.out hg2)
        clear ho2 hg2
        go_wp2
        go_roundw
        case rel => exact ⟨k + 1, by omega, by go_num, by rw [hR'.out]; exact own_len HO2.out rfl, HB2.out⟩
        case measure => simp [intOf]; omega
    · obtain rfl : k = n := by omega
      have HRW := Lib.hid hrow
      have HBL := Lib.hid hbel
      clear hrow hbel
      go_wp2
      go_ret
      have e : L.take k = L := List.take_of_length_le (by rw [HL.out.1]; exact Nat.le_refl _)
      have hr := HRW.out
      rw [e] at hr
      exact ⟨_, rfl, hr, HBL.out⟩
/-- What Get answers. -/
def GotV (o : Option Pr) : Value := match o with | some p => .tuple #[.string p.value, .bool true] | none => .tuple #[.string ⟨#[]⟩, .bool false]
set_option maxRecDepth 100000 in
set_option maxHeartbeats 4000000 in
theorem refset_calls (A : Option Addr) (n c : Nat) (L : List Pr) (key value : ByteArray) (w : World) (hl : Sl prE w A n L) (hn : n ≤ 100000) (hr : Rise L) :
    Calls Tryd.prog 25 #[.slice A n c, .string key, .string value] w (Made (putL key value L) w) := by
  have HL := Lib.hid hl
  have HR := Lib.hid hr
  clear hl hr
  go_enter Tryd.func25, Tryd.ntmps25
  go_wp2
  go_loopw [7, 8, 13] (fun v d i wr => ∃ k : Nat, k ≤ n ∧ i = .int .i64 k ∧ d = .bool (metL key (L.take k)) ∧ So prE 79 wr w.heap.size v (soFar key value (L.take k)).length (soFar key value (L.take k)) ∧ Below w.heap.size w wr) (fun _ _ i _ => n - (intOf i).toNat)
  case atStart => exact ⟨0, Nat.zero_le _, rfl, rfl, So.new_ _ _ _ (Nat.le_refl _), (Below.refl _ _).alloc (Nat.le_refl _) _⟩
  case round =>
    obtain ⟨k, hk, rfl, rfl, hrow, hbel⟩ := hrel
    have hm : (soFar key value (L.take k)).length ≤ n + 1 := by
      have h2 : (L.take k).length ≤ k := List.length_take_le _ _
      unfold soFar
      split
      · have h3 := put_len key value (L.take k)
        omega
      · omega
    by_cases hlt : k < n
    · obtain ⟨x, g, o, hx, rfl, hg, hc⟩ := (HL.out.below hbel).get k hlt
      obtain ⟨c0, c1, c2, hc3⟩ := pair_cells hc
      have HC := Lib.hid hc3
      have HRW := Lib.hid hrow
      have HBL := Lib.hid hbel
      have hbs := hbel.size
      have HX := Lib.hid hx
      have HGG := Lib.hid hg
      clear hc hc3 hrow hbel hx
      cases hd : metL key (L.take k) with
      | true =>
        obtain ⟨n1, n2, n3⟩ := set_3 HR.out HX.out key value hd
        have h1 : (x.key.toList == key.toList) = false := (eq_list _ _).trans (decide_eq_false n1)
        have HN2 : Hid (soFar key value (L.take k) ++ [x] = soFar key value (L.take (k + 1))) := Lib.hid n3.symm
        have HM := Lib.hid n2
        generalize soFar key value (L.take k) = R at HRW HN2 hm
        clear n1 n2 n3 hd
        go_wp2_with ((with_reducible refine pick (some 46) ?_); refine wpList_append_lst prE 79 rfl _ _ _ rfl Tryd.underlying29 info_pair rfl w.heap.size _ _ _ rfl (HRW.out.below ((Below.refl _ _).alloc (Nat.le_refl _) _)) wr.heap.size 0 1 1 [x] rfl (Sl.new_ prE wr _ x _ rfl) _ rfl _ HN2.out (by unfold maxLen; omega) (by omega) (by simp; omega) ?_; intro v' w2 ho2 hg2 _ _)
        have HO2 := Lib.hid ho2
        have HB2 := Lib.hid (below_app HBL.out HRW.out hg2)
        clear ho2 hg2
        go_wp2
        go_roundw
        case rel => exact ⟨k + 1, by omega, by go_num, by rw [HM.out], own_len HO2.out rfl, HB2.out⟩
        case measure => simp [intOf]; omega
      | false =>
        cases h2 : Op.bytesLess x.key.toList key.toList with
        | true =>
          obtain ⟨n2, n3⟩ := set_1 HX.out key value hd h2
          have h1 : (x.key.toList == key.toList) = false := (eq_list _ _).trans (decide_eq_false (kl_ne h2))
          have q1 : Op.bytesLess key.toList x.key.toList = false := kl_asym h2
          have q2 : (key.toList == x.key.toList) = false := (eq_list _ _).trans (decide_eq_false (kl_ne h2).symm)
          have HN2 : Hid (soFar key value (L.take k) ++ [x] = soFar key value (L.take (k + 1))) := Lib.hid n3.symm
          have HM := Lib.hid n2
          generalize soFar key value (L.take k) = R at HRW HN2 hm
          clear n2 n3 hd
          go_wp2_with ((with_reducible refine pick (some 46) ?_); refine wpList_append_lst prE 79 rfl _ _ _ rfl Tryd.underlying29 info_pair rfl w.heap.size _ _ _ rfl (HRW.out.below ((Below.refl _ _).alloc (Nat.le_refl _) _)) wr.heap.size 0 1 1 [x] rfl (Sl.new_ prE wr _ x _ rfl) _ rfl _ HN2.out (by unfold maxLen; omega) (by omega) (by simp; omega) ?_; intro v' w2 ho2 hg2 _ _)
          have HO2 := Lib.hid ho2
          have HB2 := Lib.hid (below_app HBL.out HRW.out hg2)
          clear ho2 hg2
          go_wp2
          go_roundw
          case rel => exact ⟨k + 1, by omega, by go_num, by rw [HM.out], own_len HO2.out rfl, HB2.out⟩
          case measure => simp [intOf]; omega
        | false =>
          obtain ⟨n2, n3⟩ := set_2 HX.out key value hd h2
          have HM := Lib.hid n2
          cases h1 : (x.key.toList == key.toList) with
          | true =>
            have hk1 : decide (x.key = key) = true := (eq_list _ _).symm.trans h1
            rw [hk1] at n3
            have HN2 : Hid (soFar key value (L.take k) ++ [⟨key, value, false⟩] = soFar key value (L.take (k + 1))) := Lib.hid (by rw [n3]; simp)
            have hke := of_decide_eq_true hk1
            have q1 : Op.bytesLess key.toList x.key.toList = false := (by rw [hke]; exact kl_irr _)
            have q2 : (key.toList == x.key.toList) = true := (eq_list _ _).trans (decide_eq_true hke.symm)
            clear hke
            generalize soFar key value (L.take k) = R at HRW HN2 hm
            clear n2 n3 hd hk1
            go_wp2_with ((with_reducible refine pick (some 32) ?_); refine wpList_append_lst prE 79 rfl _ _ _ rfl Tryd.underlying29 info_pair rfl w.heap.size _ _ _ rfl (HRW.out.below ((Below.refl _ _).alloc (Nat.le_refl _) _)) wr.heap.size 0 1 1 [(⟨key, value, false⟩ : Pr)] rfl (Sl.new_ prE wr _ (⟨key, value, false⟩ : Pr) _ rfl) _ rfl _ HN2.out (by unfold maxLen; omega) (by omega) (by simp; omega) ?_; intro v' w2 ho2 hg2 _ _; have hb2 := below_app HBL.out HRW.out hg2; obtain ⟨d0, d1, d2, _⟩ := pair_cells ((HL.out.below hb2).at_ k x HX.out).2; have hbs2 := hb2.size; have HO2 := Lib.hid ho2; have HB2 := Lib.hid hb2; clear ho2 hg2 hb2)
            go_roundw
            case rel => exact ⟨k + 1, by omega, by go_num, by rw [HM.out], own_len HO2.out rfl, HB2.out⟩
            case measure => simp [intOf]; omega
          | false =>
            have hk1 : decide (x.key = key) = false := (eq_list _ _).symm.trans h1
            rw [hk1] at n3
            have hke := of_decide_eq_false hk1
            have q1 : Op.bytesLess key.toList x.key.toList = true := (by
              cases h9 : Op.bytesLess key.toList x.key.toList with
              | true => rfl
              | false => exact absurd (kl_tri h2 h9) hke)
            have q2 : (key.toList == x.key.toList) = false := (eq_list _ _).trans (decide_eq_false (Ne.symm hke))
            clear hke
            have HN1 : Hid (soFar key value (L.take k) ++ [⟨key, value, false⟩] = soFar key value (L.take k) ++ [⟨key, value, false⟩]) := Lib.hid rfl
            have HN2 : Hid ((soFar key value (L.take k) ++ [⟨key, value, false⟩]) ++ [x] = soFar key value (L.take (k + 1))) := Lib.hid (by rw [n3]; simp)
            generalize soFar key value (L.take k) = R at HRW HN1 HN2 hm
            clear n2 n3 hd hk1
            go_wp2_with (first | ((with_reducible refine pick (some 32) ?_); refine wpList_append_lst prE 79 rfl _ _ _ rfl Tryd.underlying29 info_pair rfl w.heap.size _ _ _ rfl (HRW.out.below ((Below.refl _ _).alloc (Nat.le_refl _) _)) wr.heap.size 0 1 1 [(⟨key, value, false⟩ : Pr)] rfl (Sl.new_ prE wr _ (⟨key, value, false⟩ : Pr) _ rfl) _ rfl _ HN1.out (by unfold maxLen; omega) (by omega) (by simp; omega) ?_; intro v' w2 ho2 hg2 _ _; have hb2 := below_app HBL.out HRW.out hg2; obtain ⟨d0, d1, d2, _⟩ := pair_cells ((HL.out.below hb2).at_ k x HX.out).2; have hbs2 := hb2.size; have HO2 := Lib.hid ho2; have HB2 := Lib.hid hb2; clear ho2 hg2 hb2) | ((with_reducible refine pick (some 46) ?_); refine wpList_append_lst prE 79 rfl _ _ _ rfl Tryd.underlying29 info_pair rfl w.heap.size _ _ _ rfl (HO2.out.below ((Below.refl _ _).alloc (Nat.le_refl _) _)) w2.heap.size 0 1 1 [x] rfl (Sl.new_ prE w2 _ x _ rfl) _ rfl _ HN2.out (by unfold maxLen; omega) (by omega) (by simp; omega) ?_; intro v' w3 ho3 hg3 _ _))
            have HO3 := Lib.hid ho3
            have HB3 := Lib.hid (below_app HB2.out HO2.out hg3)
            clear ho3 hg3
            go_wp2
            go_roundw
            case rel => exact ⟨k + 1, by omega, by go_num, by rw [HM.out], own_len HO3.out rfl, HB3.out⟩
            case measure => simp [intOf]; omega
    · obtain rfl : k = n := by omega
      have HRW := Lib.hid hrow
      have HBL := Lib.hid hbel
      have hbs := hbel.size
      have e : L.take k = L := List.take_of_length_le (by rw [HL.out.1]; exact Nat.le_refl _)
      have HE := Lib.hid (set_end key value L)
      rw [e] at HRW hm ⊢
      clear hrow hbel e
      cases hd : metL key L with
      | true =>
        rw [hd] at HE
        have HN : Hid (soFar key value L = putL key value L) := Lib.hid (by rw [HE.out]; simp)
        clear hd
        go_wp2
        go_ret
        exact Made.of rfl HRW.out HN.out HBL.out
      | false =>
        rw [hd] at HE
        have HN2 : Hid (soFar key value L ++ [⟨key, value, false⟩] = putL key value L) := Lib.hid (by rw [HE.out]; simp)
        generalize soFar key value L = R at HRW HN2 hm
        clear hd HE
        go_wp2_with ((with_reducible refine pick (some 55) ?_); refine wpList_append_lst prE 79 rfl _ _ _ rfl Tryd.underlying29 info_pair rfl w.heap.size _ _ _ rfl (HRW.out.below ((Below.refl _ _).alloc (Nat.le_refl _) _)) wr.heap.size 0 1 1 [(⟨key, value, false⟩ : Pr)] rfl (Sl.new_ prE wr _ (⟨key, value, false⟩ : Pr) _ rfl) _ rfl _ HN2.out (by unfold maxLen; omega) (by omega) (by simp; omega) ?_; intro v' w2 ho2 hg2 _ _)
        have HO2 := Lib.hid ho2
        have HB2 := Lib.hid (below_app HBL.out HRW.out hg2)
        clear ho2 hg2
        go_wp2
        go_ret
        exact Made.of rfl HO2.out rfl HB2.out
end Go.Proofs.YtbdokofdbeccdaaDoor.TreeR
