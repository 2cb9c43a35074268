/- The walk of layer 6's law RecCut. -/
import Derived.Test.YtfkofagboojnnaaRecF
import Derived.StillTailTactics
import Derived.Laws.CopyOwn
namespace Go.Proofs.Ytfkofagboojnnaa.RecT
set_option linter.unusedVariables false
set_option linter.unusedSimpArgs false
open Go.RowKit
open Go.Proofs.Ytfkofagboojnnaa.Byte Go.Proofs.Ytfkofagboojnnaa.PackM Go.Proofs.Ytfkofagboojnnaa.PackV Go.Proofs.Ytfkofagboojnnaa.RecM Go.Proofs.Ytfkofagboojnnaa.RecW Go.Proofs.Ytfkofagboojnnaa.RecP Go.Proofs.Ytfkofagboojnnaa.RecX Go.Proofs.Ytfkofagboojnnaa.RecF

theorem grown_cell (w : World) (p : Addr) (v : Value) : w.grownBy (w.setCell p v).drew (some p.block) :=
  ⟨rfl, rfl, rfl, by simp [World.setCell], fun k hk hne => Below.heap_setCell w p v k (fun e => hne (by rw [e]))⟩
/-- Whether all of l equals fs up to k; whether all of l is 255 up to k. -/
def eqTo (ls fs : List Int) (k : Nat) : Bool := decide (∀ j, j < k → ls.getD j 0 = fs.getD j 0)
def blTo (ls : List Int) (k : Nat) : Bool := decide (∀ j, j < k → ls.getD j 0 = 255)
theorem eqTo_succ (ls fs : List Int) (k : Nat) : eqTo ls fs (k + 1) = (eqTo ls fs k && (ls.getD k 0 == fs.getD k 0)) := by
  unfold eqTo
  rw [Bool.eq_iff_iff]
  simp only [decide_eq_true_eq, Bool.and_eq_true, beq_iff_eq]
  refine ⟨fun h => ⟨fun j hj => h j (by omega), h k (by omega)⟩, fun h j hj => ?_⟩
  rcases Nat.lt_or_eq_of_le (Nat.le_of_lt_succ hj) with h1 | h1
  · exact h.1 j h1
  · rw [h1]; exact h.2
theorem blTo_succ (ls : List Int) (k : Nat) : blTo ls (k + 1) = (blTo ls k && (ls.getD k 0 == 255)) := by
  unfold blTo
  rw [Bool.eq_iff_iff]
  simp only [decide_eq_true_eq, Bool.and_eq_true, beq_iff_eq]
  refine ⟨fun h => ⟨fun j hj => h j (by omega), h k (by omega)⟩, fun h j hj => ?_⟩
  rcases Nat.lt_or_eq_of_le (Nat.le_of_lt_succ hj) with h1 | h1
  · exact h.1 j h1
  · rw [h1]; exact h.2
theorem fill_set (z k : Nat) (h : k < z) : (List.replicate k (255 : Int) ++ List.replicate (z - k) 0).set k 255 = List.replicate (k + 1) 255 ++ List.replicate (z - (k + 1)) 0 := by
  have e : z - k = (z - (k + 1)) + 1 := by omega
  rw [e, List.replicate_succ, List.set_append_right _ _ (by simp), List.length_replicate, Nat.sub_self, List.set_cons_zero, List.replicate_succ', List.append_assoc]
  rfl
/-- The cut bytes, as they come about. -/
theorem cut_made (fs : List Int) (n m : Nat) (x : Int) (h : n < fs.length) (z : Nat) (hz : z = n + 1 + m) : (over (List.replicate z 255) 0 (fs.take n)).set n x = cut fs n x m := by
  subst hz
  unfold over cut
  have hl : (fs.take n).length = n := by rw [List.length_take]; omega
  rw [hl, List.take_zero, List.nil_append, Nat.zero_add, List.drop_replicate, show n + 1 + m - n = m + 1 by omega, List.replicate_succ, List.set_append_right _ _ (by omega), hl, Nat.sub_self, List.set_cons_zero]
  rfl
theorem or_not (b m : Int) (h0 : 0 ≤ b) (h1 : b ≤ 255) (h2 : 0 ≤ m) (h3 : m ≤ 255) : b ≤ bits .and .u8 255 (bits .or .u8 b (bits .xor .u8 IntKind.u8.max m)) ∧ bits .and .u8 255 (bits .or .u8 b (bits .xor .u8 IntKind.u8.max m)) ≤ 255 := by
  obtain ⟨x, rfl⟩ := Int.eq_ofNat_of_zero_le h0
  obtain ⟨z, rfl⟩ := Int.eq_ofNat_of_zero_le h2
  have ex : bits .xor .u8 IntKind.u8.max (z : Int) = ((255 ^^^ z : Nat) : Int) := u8_xor_nat 255 z (by omega) (by omega)
  have hz : 255 ^^^ z < 2 ^ 8 := Nat.xor_lt_two_pow (by omega) (by omega)
  rw [ex]
  generalize 255 ^^^ z = y at hz
  rw [u8_or_nat _ _ (by omega) (by omega)]
  have hlt : x ||| y < 2 ^ 8 := Nat.or_lt_two_pow (by omega) (by omega)
  have hle : x ≤ x ||| y := Nat.left_le_or
  have e : bits .and .u8 255 ((x ||| y : Nat) : Int) = ((x ||| y : Nat) : Int) := by
    have := u8_and_nat 255 (x ||| y) (by omega) (by omega)
    rw [show ((255 : Nat) : Int) = 255 from rfl] at this
    rw [this]
    have h4 : 255 &&& (x ||| y) = x ||| y := by
      rw [Nat.and_comm, show (255 : Nat) = 2 ^ 8 - 1 from rfl, Nat.and_two_pow_sub_one_eq_mod, Nat.mod_eq_of_lt hlt]
    rw [h4]
  rw [e]
  omega
/-- What is left, three ways. -/
theorem left_whole {ls xs : List Int} (h : eqTo ls (frame 127 xs) (xs.length + 8) = true) (hl : xs.length + 8 ≤ ls.length) (hx : xs.length ≤ 65535) : cs ls 0 = 4 ∧ cr ls 0 = xs := by
  unfold eqTo at h
  have h := of_decide_eq_true h
  have hf := frame_len 127 xs
  have e : ls = [] ++ (frame 127 xs ++ ls.drop (xs.length + 8)) := by
    rw [List.nil_append]
    refine List.ext_getElem ?_ fun i h1 h2 => ?_
    · rw [List.length_append, List.length_drop, hf]
      omega
    · rcases Nat.lt_or_ge i (xs.length + 8) with h3 | h3
      · rw [List.getElem_append_left (by omega)]
        have := h i h3
        rw [List.getD_eq_getElem?_getD, List.getD_eq_getElem?_getD, List.getElem?_eq_getElem h1, List.getElem?_eq_getElem (by omega)] at this
        exact this
      · rw [List.getElem_append_right (by omega), List.getElem_drop]
        congr 1
        omega
  obtain ⟨r1, r2, _⟩ := found 127 xs [] (ls.drop (xs.length + 8)) hx (by decide)
  rw [← e] at r1 r2
  exact ⟨r1, r2⟩
theorem left_none {ls : List Int} {z : Nat} (h : ∀ j, j < ls.length → ls.getD j 0 = 255) : cs ls 0 = 0 ∧ cr ls 0 = [] := by
  have hb : RecM.blank ls 0 = true := by
    unfold RecM.blank
    rw [List.drop_zero, List.all_eq_true]
    intro x hx
    obtain ⟨i, hi, rfl⟩ := List.getElem_of_mem hx
    have := h i hi
    rw [List.getD_eq_getElem?_getD, List.getElem?_eq_getElem hi, Option.getD_some] at this
    simpa using this
  have r := c_blank (a := 0) (Nat.zero_le _) hb
  exact ⟨r.1, r.2.1⟩
theorem eqTo_no {ls fs : List Int} {k : Nat} (h : eqTo ls fs k = false) : ∃ j, j < k ∧ ls.getD j 0 ≠ fs.getD j 0 := by
  unfold eqTo at h
  have := of_decide_eq_false h
  simpa using this
theorem blTo_no {ls : List Int} {k : Nat} (h : blTo ls k = false) : ∃ j, j < k ∧ ls.getD j 0 ≠ 255 := by
  unfold blTo at h
  have := of_decide_eq_false h
  simpa using this
theorem blTo_yes {ls : List Int} {k : Nat} (h : blTo ls k = true) : ∀ j, j < k → ls.getD j 0 = 255 := by
  unfold blTo at h
  exact of_decide_eq_true h
theorem over_at (fs : List Int) (z q : Nat) (h : q < z) (h2 : q < fs.length) : (over (List.replicate z 255) 0 (fs.take q)).getD q 0 = 255 := by
  unfold over
  have hl : (fs.take q).length = q := by rw [List.length_take]; omega
  rw [List.take_zero, List.nil_append, Nat.zero_add, List.getD_eq_getElem?_getD, List.getElem?_append_right (by omega), hl, Nat.sub_self, List.drop_replicate, List.getElem?_replicate, if_pos (by omega)]
  rfl
set_option maxRecDepth 100000 in
set_option maxHeartbeats 4000000 in
theorem cut_in (A : Option Addr) (n c : Nat) (xs : List Int) (k m : Int) (w : World) (hb : Bs w A n xs) (hA : A = none → c = 0) (hn : n ≤ 500) (hk0 : 0 ≤ k) (hk1 : k ≤ 65535) (hm0 : 0 ≤ m) (hm1 : m ≤ 255) :
    Calls Try.prog 7 #[.slice A n c, .int .u16 k, .int .u8 m] w fun e w' => e = .returned (.bool true) ∧ Below w.heap.size w w' := by
  have d0 : decide (500 < (n : Int)) = false := by simp; omega
  have hfl : (frame 127 xs).length = n + 8 := by rw [frame_len, hb.len]
  obtain ⟨fs, hfs⟩ : ∃ fs, frame 127 xs = fs := ⟨_, rfl⟩
  rw [hfs] at hfl
  have HFS := Lib.hid hfs
  have HFL := Lib.hid hfl
  have HLX := Lib.hid hb.len
  have HB := Lib.hid hb
  have hqb : 0 ≤ k % ((n : Int) + 8) ∧ k % ((n : Int) + 8) < (n : Int) + 8 := ⟨Int.emod_nonneg _ (by omega), Int.emod_lt_of_pos _ (by omega)⟩
  obtain ⟨q, hq⟩ := Int.eq_ofNat_of_zero_le hqb.1
  have hqn : q < n + 8 := by omega
  clear hb hfs hfl hqb
  have dz : ((n : Int) + 8 == 0) = false := by rw [beq_eq_false_iff_ne]; omega
  go_enter Try.func7, Try.ntmps7
  go_wp2_with fail
  refine (RecP.put_calls A n c xs _ HB.out hA (by omega)).mono ?_
  rw [HFS.out]
  intro e w1 hm
  obtain ⟨g, cap, rfl, ho, hb⟩ := hm.at_ HFL.out
  have HO := Lib.hid ho
  have HW := Lib.hid hb
  have hp := ho.place
  have hz := hb.size
  have hcap := ho.capLe
  clear hm ho hb
  go_wp2_with ((with_reducible refine pick (some 43) ?_); refine wpList_make_bytes rfl _ _ _ rfl w1.heap.size 5 Try.underlying22 info8 _ _ _ _ (n + 17) rfl rfl (by omega) (by omega) (by omega) (Nat.le_refl _) ?_; intro w2 hown2 hg2; have hbel2 : Below w1.heap.size w1 w2 := (Below.refl _ _).grown hg2 (Nat.le_refl _) (by intro k hk; cases hk); have HO2 := Lib.hid hown2; have HB2 := Lib.hid hbel2; have hz2 := hown2.place; clear hown2 hg2 hbel2)
  go_loopw [11, 46] (fun _ i wr => ∃ j : Nat, j ≤ n + 17 ∧ i = .int .i64 j ∧ Ob wr w1.heap.size 5 w1.heap.size (n + 17) (n + 17) (List.replicate j 255 ++ List.replicate (n + 17 - j) 0) ∧ Below w1.heap.size w1 wr) (fun _ i _ => n + 17 - (intOf i).toNat)
  case atStart => exact ⟨0, by omega, rfl, by simpa using HO2.out, HB2.out⟩
  case round =>
    obtain ⟨j, hj, rfl, hown, hbel⟩ := hrel
    by_cases hlt : j < n + 17
    · have hcell := hown.cell j hlt
      have hfr := hown.frozen j
      go_wp2_with fail
      go_roundw
      case rel =>
        refine ⟨j + 1, by omega, by go_num, ?_, hbel.setCell (Nat.le_refl _) _⟩
        have h3 := hown.set_ j 255 (by omega) (by omega)
        rw [fill_set _ _ hlt] at h3
        exact h3
      case measure => simp [intOf]; omega
    · obtain rfl : j = n + 17 := by omega
      rw [Nat.sub_self, List.replicate_zero, List.append_nil] at hown
      have HO3 := Lib.hid hown
      have HOB := Lib.hid (HO.out.below hbel)
      have HW3 := Lib.hid (keeps HW.out hbel)
      have hz3 := hbel.size
      have hsl := fun w : World => slice_front (g := g) (n := n + 8) (h := q) w (show 0 < cap by omega) (by omega)
      have hbs : Bs wr (some ⟨g, 0, none⟩) q (fs.take q) := by
        have := HOB.out.bs.sub 0 q (by omega)
        rwa [List.drop_zero, Nat.add_zero] at this
      have HBS := Lib.hid hbs
      have HOV := Lib.hid (over_at fs (n + 17) q (by omega) (by rw [HFL.out]; exact hqn))
      have hgb := HOB.out.bs.bd q
      clear hbs hown hbel
      go_wp2_with ((with_reducible refine pick (some 57) ?_); refine wpList_copy_bytes rfl _ _ _ _ rfl 5 Try.underlying22 size8 w1.heap.size w1.heap.size 0 (n + 17) (n + 17) (n + 17) (n + 17) _ _ rfl HO3.out (some ⟨g, 0, none⟩) q cap (fs.take q) rfl HBS.out (by omega) (fun _ => rfl) (by omega) _ rfl ?_; intro w4 hown4 hg4; have hne : some w1.heap.size ≠ some g := (by intro e; injection e with e; omega); have HOB4 := Lib.hid (HOB.out.grown hg4 hne); have HO4 := Lib.hid hown4; have HW4 := Lib.hid (HW3.out.grown hg4 (by omega) (by intro k hk; injection hk with hk; omega)); have hcl := hown4.cell q (by omega); have hfr := hown4.frozen q; have hcb := HOB4.out.cell q hqn; clear hne hown4 hg4)
      rw [HOV.out] at hcl
      obtain ⟨y, hy⟩ : ∃ y, fs.getD q 0 = y := ⟨_, rfl⟩
      have HY := Lib.hid hy
      rw [hy] at hcb hgb
      clear hy
      have p1 : (q : Int) < (n : Int) + 17 := by omega
      have p2 : q < n + 17 := by omega
      have p3 : (q : Int) < (n : Int) + 8 := by omega
      go_still_tail 13, (by kernel_rfl)
      change wpList _ _ _ _ _ w4.drew
      go_wp2_with fail
      have hv := or_not y m hgb.1 hgb.2 hm0 hm1
      have hx0 : 0 ≤ bits .and .u8 255 (bits .or .u8 y (bits .xor .u8 IntKind.u8.max m)) := by omega
      have h5 := HO4.out.set_ q (bits .and .u8 255 (bits .or .u8 y (bits .xor .u8 IntKind.u8.max m))) hx0 hv.2
      have hob : Ob (w4.setCell ⟨w1.heap.size, q, none⟩ (.int .u8 (bits .and .u8 255 (bits .or .u8 y (bits .xor .u8 IntKind.u8.max m))))).drew w.heap.size 5 g (n + 8) cap fs := (HOB4.out.grown (grown_cell w4 ⟨w1.heap.size, q, none⟩ _) (by intro e; have e2 : w1.heap.size = g := Option.some.inj e; omega))
      rw [cut_made fs q (n + 16 - q) _ (by rw [HFL.out]; exact hqn) (n + 17) (by omega)] at h5
      generalize bits .and .u8 255 (bits .or .u8 y (bits .xor .u8 IntKind.u8.max m)) = x at *
      have hbel5 : Below w.heap.size w (w4.setCell ⟨w1.heap.size, q, none⟩ (.int .u8 x)).drew := (HW4.out.setCell (by omega) _).drew
      have h5d : Ob (w4.setCell ⟨w1.heap.size, q, none⟩ (.int .u8 x)).drew w1.heap.size 5 w1.heap.size (n + 17) (n + 17) (cut fs q x (n + 16 - q)) := h5
      generalize (w4.setCell ⟨w1.heap.size, q, none⟩ (.int .u8 x)).drew = W at *
      have hxx : fs.getD q 0 ≤ x ∧ x ≤ 255 := ⟨by rw [HY.out]; exact hv.1, hv.2⟩
      have HXX := Lib.hid hxx
      have HLC := Lib.hid (show (cut fs q x (n + 16 - q)).length = n + 17 by rw [cut_len (by rw [HFL.out]; exact hqn)]; omega)
      obtain ⟨ls, hls⟩ : ∃ ls, cut fs q x (n + 16 - q) = ls := ⟨_, rfl⟩
      rw [hls] at h5d HLC
      have HLS := Lib.hid hls
      have HO5 := Lib.hid h5d
      have HF5 := Lib.hid hob
      have HW5 := Lib.hid hbel5
      clear hls h5d hob hbel5 h5 hxx hv hx0 hcl hfr hcb
      go_loop [12, 13, 14, 15, 73] (fun a b _ _ i => ∃ j : Nat, j ≤ n + 8 ∧ i = .int .i64 j ∧ a = .bool (eqTo ls fs j) ∧ b = .bool (blTo ls j)) (fun _ _ _ _ i => n + 8 - (intOf i).toNat)
      case atStart => exact ⟨0, by omega, rfl, rfl, rfl⟩
      case round =>
        obtain ⟨j, hj, rfl, rfl, rfl⟩ := hrel
        by_cases hlt : j < n + 8
        · have c1 := HO5.out.cell j (by omega)
          have c2 := HF5.out.cell j hlt
          have E1 := Lib.hid (eqTo_succ ls fs j)
          have E2 := Lib.hid (blTo_succ ls j)
          generalize ls.getD j 0 = u at *
          generalize fs.getD j 0 = v at *
          generalize hB1 : eqTo ls fs j = B1 at E1 ⊢
          generalize hB2 : blTo ls j = B2 at E2 ⊢
          clear hB1 hB2
          have q1 : (j : Int) < (n : Int) + 17 := by omega
          have q2 : j < n + 17 := by omega
          cases B1 <;> cases B2
          all_goals
            go_wp2_with fail
            go_round
            case rel => exact ⟨j + 1, by omega, by go_num, by rw [E1.out]; simp, by rw [E2.out]; simp⟩
            case measure => simp [intOf]; omega
        · obtain rfl : j = n + 8 := by omega
          have HC := Lib.hid (RecX.class_calls (some ⟨w1.heap.size, 0, none⟩) (n + 17) (n + 17) ls 0 W HO5.out.bs (by omega) (Nat.le_refl _))
          have HQ := Lib.hid hqn
          obtain ⟨B1, hB1⟩ : ∃ B, eqTo ls fs (n + 8) = B := ⟨_, rfl⟩
          obtain ⟨B2, hB2⟩ : ∃ B, blTo ls (n + 8) = B := ⟨_, rfl⟩
          have H1 := Lib.hid hB1
          have H2 := Lib.hid hB2
          rw [hB1, hB2]
          clear hB1 hB2
          cases B1 with
          | true =>
            have HE : Hid (cs ls 0 = 4 ∧ cr ls 0 = xs) := Lib.hid (left_whole (by rw [HFS.out, HLX.out]; exact H1.out) (by rw [HLC.out, HLX.out]; omega) (by rw [HLX.out]; omega))
            go_wp2_with fail
            refine (HC.out).mono ?_
            intro e w7 hm
            rw [HE.out.1, HE.out.2] at hm
            obtain ⟨B7, c7, rfl, ho7, _, _, hb7⟩ := hm.at_ HLX.out
            have HO7 := Lib.hid ho7
            have HW7 := Lib.hid (keeps HW5.out hb7)
            clear hm ho7 hb7
            go_wp2_with fail
            refine (fixed_calls _).mono ?_
            rintro e w8 ⟨rfl, hb8⟩
            have hW8 := keeps HW7.out hb8
            obtain ⟨t, ht⟩ : ∃ t, str xs = t := ⟨_, rfl⟩
            have h1 := conv_of (c := c7) (HO7.out.below hb8) ht
            have h2 := conv_of (c := c) (HB.out.below hW8) ht
            clear ht
            have HW8 := Lib.hid hW8
            clear hb8 hW8
            go_wp2_with fail
            go_ret
            exact ⟨rfl, HW8.out⟩
          | false =>
            cases B2 with
            | true =>
              have HE : Hid (cs ls 0 = 0 ∧ cr ls 0 = []) := Lib.hid (left_none (z := 0) fun j hj => by
                rcases Nat.lt_or_ge j (n + 8) with h3 | h3
                · exact blTo_yes H2.out j h3
                · rw [← HLS.out]
                  exact cut_hi (by rw [HFL.out]; exact HQ.out) (by have := HQ.out; omega) (by rw [HLC.out] at hj; have := HQ.out; omega))
              go_wp2_with fail
              refine (HC.out).mono ?_
              intro e w7 hm
              rw [HE.out.1, HE.out.2] at hm
              obtain ⟨B7, c7, rfl, ho7, _, _, hb7⟩ := hm.at_ (n := 0) rfl
              have HO7 := Lib.hid ho7
              have HW7 := Lib.hid (keeps HW5.out hb7)
              clear hm ho7 hb7
              go_wp2_with fail
              refine (fixed_calls _).mono ?_
              rintro e w8 ⟨rfl, hb8⟩
              have hW8 := keeps HW7.out hb8
              have HW8 := Lib.hid hW8
              clear hb8 hW8
              go_wp2_with fail
              go_ret
              exact ⟨rfl, HW8.out⟩
            | false =>
              have HE : Hid (cs ls 0 = 3 ∧ cr ls 0 = []) := Lib.hid (by
                have h1 := eqTo_no H1.out
                have h2 := blTo_no H2.out
                have r := cut_off xs q (n + 16 - q) x HB.out.2.1 (by rw [HLX.out]; omega) (by rw [HFS.out, HFL.out]; exact HQ.out) (by rw [HFS.out]; exact HXX.out.1) HXX.out.2 (by rw [HLX.out]; have := HQ.out; omega)
                rw [HFS.out, HLS.out, HFL.out] at r
                exact r h1 h2)
              go_wp2_with fail
              refine (HC.out).mono ?_
              intro e w7 hm
              rw [HE.out.1, HE.out.2] at hm
              obtain ⟨B7, c7, rfl, ho7, _, _, hb7⟩ := hm.at_ (n := 0) rfl
              have HO7 := Lib.hid ho7
              have HW7 := Lib.hid (keeps HW5.out hb7)
              clear hm ho7 hb7
              go_wp2_with fail
              refine (fixed_calls _).mono ?_
              rintro e w8 ⟨rfl, hb8⟩
              have hW8 := keeps HW7.out hb8
              have HW8 := Lib.hid hW8
              clear hb8 hW8
              go_wp2_with fail
              go_ret
              exact ⟨rfl, HW8.out⟩
theorem cut_law (A : Option Addr) (n c : Nat) (xs : List Int) (k m : Int) (w : World) (hb : Bs w A n xs) (hA : A = none → c = 0) (hn : n ≤ maxLen) (hk0 : 0 ≤ k) (hk1 : k ≤ 65535) (hm0 : 0 ≤ m) (hm1 : m ≤ 255) :
    Calls Try.prog 7 #[.slice A n c, .int .u16 k, .int .u8 m] w fun e w' => e = .returned (.bool true) ∧ Below w.heap.size w w' := by
  by_cases hbig : 500 < n
  · unfold maxLen at hn
    clear hb
    go_enter Try.func7, Try.ntmps7
    go_wp2_with (go_at_call 8; refine (fixed_calls _).mono ?_; rintro e w' ⟨rfl, hbel⟩)
    go_ret
    exact ⟨rfl, hbel⟩
  · exact cut_in A n c xs k m w hb hA (by omega) hk0 hk1 hm0 hm1
end Go.Proofs.Ytfkofagboojnnaa.RecT
