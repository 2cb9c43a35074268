/- Layer 11's second law, over what the project's functions are asked. -/
import Derived.Test.YthpgpomkilnlgaaPickA
import Derived.Deep.Cut
namespace Go.Proofs.Ythpgpomkilnlgaa.PickB
set_option linter.unusedVariables false
set_option linter.unusedSimpArgs false
open Go.RowKit
open Go.Proofs.Ythpgpomkilnlgaa.Byte Go.Proofs.Ythpgpomkilnlgaa.PickM Go.Proofs.Ythpgpomkilnlgaa.PickN Go.Proofs.Ythpgpomkilnlgaa.Own Go.Proofs.Ythpgpomkilnlgaa.Rw Go.Proofs.Ythpgpomkilnlgaa.Lst Go.Proofs.Ythpgpomkilnlgaa.PickR Go.Proofs.Ythpgpomkilnlgaa.PickRe Go.Proofs.Ythpgpomkilnlgaa.PickL Go.Proofs.Ythpgpomkilnlgaa.PickA

/-- No two of the first so many have the same wear or age. -/
def DistTo (L : List Inf) (n : Nat) : Prop := ∀ i j x y, i < n → j < i → L[i]? = some x → L[j]? = some y → x.wear ≠ y.wear ∧ x.age ≠ y.age
def RowTo (L : List Inf) (x : Inf) (n : Nat) : Prop := ∀ j y, j < n → L[j]? = some y → x.wear ≠ y.wear ∧ x.age ≠ y.age
theorem dist_next {L : List Inf} {n : Nat} {x : Inf} (h : DistTo L n) (hx : L[n]? = some x) (hr : RowTo L x n) : DistTo L (n + 1) := by
  intro i j y z hi hj hy hz
  rcases Nat.lt_or_ge i n with h1 | h1
  · exact h i j y z h1 hj hy hz
  · obtain rfl : i = n := by omega
    rw [hx] at hy
    injection hy with hy
    subst hy
    exact hr j z hj hz
theorem row_next {L : List Inf} {n : Nat} {x y : Inf} (h : RowTo L x n) (hy : L[n]? = some y) (h1 : x.wear ≠ y.wear) (h2 : x.age ≠ y.age) : RowTo L x (n + 1) := by
  intro j z hj hz
  rcases Nat.lt_or_ge j n with h3 | h3
  · exact h j z h3 hz
  · obtain rfl : j = n := by omega
    rw [hy] at hz
    injection hz with hz
    subst hz
    exact ⟨h1, h2⟩
theorem dist_all {L : List Inf} (h : DistTo L L.length) : Dist L := by
  intro i j x y hx hy hne
  have hi := (List.getElem?_eq_some_iff.1 hx).1
  have hj := (List.getElem?_eq_some_iff.1 hy).1
  rcases Nat.lt_or_gt_of_ne hne with h1 | h1
  · have := h j i y x hj h1 hy hx
    exact ⟨fun e => this.1 e.symm, fun e => this.2 e.symm⟩
  · exact h i j x y hi h1 hx hy
/-- The box of what came in. -/
def boxO (A : Option Addr) (n c : Nat) : Obj := .cells #[.slice A n c] 22
theorem info_inf : (Try.prog.info? 29).map (fun i => (i.zero, i.size, i.bytes)) = some (some (.agg #[.int .i64 0, .bool false, .int .i64 0, .int .u64 0, .int .i64 0, .bool false]), infE.size, 48) := by kernel_rfl
theorem fit_rot {L : List Inf} (h : Fit L) (K : Nat) : Fit (rot K L) := by
  intro x hx
  unfold rot at hx
  rcases List.mem_append.1 hx with h1 | h1
  · exact h x (List.mem_of_mem_drop h1)
  · exact h x (List.mem_of_mem_take h1)
set_option maxHeartbeats 1000000 in
/-- The closure: where a number stood before all was turned. -/
theorem back_calls (bk bl g o n c K : Nat) (b' b : Bst) (w : World) (hk : Blk w bk #[.int .i64 (K : Nat)] 3) (hl : Blk w bl #[.slice (some ⟨g, o, none⟩) n c] 22) (hb : ∀ i x, b' = some (i, x) → i < n) (hn : 0 < n) (hn2 : n ≤ 200) (hK : K < n) (e : b = moved n K b') :
    Calls Try.prog 19 #[.int .i64 (ansN b'), .bool b'.isSome, .pointer (some ⟨bk, 0, none⟩), .pointer (some ⟨bl, 0, none⟩)] w fun e w' => e = .returned (.tuple #[.int .i64 (ansN b), .bool b.isSome]) ∧ w = w' := by
  have c0 : w.cell? ⟨bk, 0, none⟩ = some (.int .i64 (K : Nat)) := hk.cell 0
  have c1 : w.cell? ⟨bl, 0, none⟩ = some (.slice (some ⟨g, o, none⟩) n c) := hl.cell 0
  clear hk hl
  cases b' with
  | none =>
    subst e
    rw [show ansN (moved n K none) = 0 from rfl, show ansN (none : Bst) = 0 from rfl, show (moved n K none).isSome = false from rfl, show (none : Bst).isSome = false from rfl]
    clear hb
    go_enter Try.func19, Try.ntmps19
    go_wp2_with fail
    go_ret2
    exact ⟨rfl, rfl⟩
  | some q =>
    obtain ⟨i, x⟩ := q
    have hi := hb i x rfl
    subst e
    rw [show ansN (moved n K (some (i, x))) = (((i + K) % n : Nat) : Int) from rfl, show ansN (some (i, x) : Bst) = (i : Int) from rfl, show (moved n K (some (i, x))).isSome = true from rfl, show (some (i, x) : Bst).isSome = true from rfl]
    have hnz : ¬ n = 0 := by omega
    have hz : ((n : Int) == 0) = false := by rw [beq_eq_false_iff_ne]; omega
    clear hb
    go_enter Try.func19, Try.ntmps19
    go_wp2_with fail
    go_ret2
    exact ⟨rfl, rfl⟩
theorem rot_is {g : List Inf → Bst} {L : List Inf} {n K : Nat} (h : g L = moved L.length K (g (rot K L))) (hl : L.length = n) (hb : ∀ i x, g (rot K L) = some (i, x) → i < n) : ∃ b b', g L = b ∧ g (rot K L) = b' ∧ b = moved n K b' ∧ ∀ i x, b' = some (i, x) → i < n := by
  subst hl
  exact ⟨_, _, rfl, rfl, h, hb⟩
theorem same_num (b : Bst) : (ansN b == ansN b) = true := beq_self_eq_true _
theorem same_is (b : Bst) : (b.isSome == b.isSome) = true := beq_self_eq_true _
set_option maxRecDepth 100000 in
set_option maxHeartbeats 8000000 in
theorem order_law (hP : Picks) (A : Option Addr) (n c : Nat) (L : List Inf) (b : Int) (w : World) (hl : Sl infE w A n L) (hn : n ≤ c) (hc : c ≤ maxLen) (hx : ∀ x ∈ L, fitX x) (hb0 : 0 ≤ b) (hb1 : b ≤ 255) :
    Calls Try.prog 4 #[.slice A n c, .int .u8 b] w fun e w' => e = .returned (.bool true) ∧ Below w.heap.size w w' := by
  have HP := Lib.hid hP
  have hbw : Below w.heap.size w (w.alloc (.cells #[.slice A n c] 22)) := (Below.refl _ _).alloc (Nat.le_refl _) _
  have HL := Lib.hid hl
  have HX := Lib.hid hx
  have HC := Lib.hid hc
  have HNC := Lib.hid hn
  have HBX := Lib.hid (Blk.new_ w #[.slice A n c] 22)
  have HB0 := Lib.hid hbw
  clear hP hl hx hc hn hbw
  go_enter Try.func4, Try.ntmps4
  go_wp2_with fail
  refine (great_calls A n c L _ (HL.out.below HB0.out) HNC.out HC.out HX.out).mono ?_
  rintro e w1 ⟨g, rfl, hg, hb1⟩
  have HB1 := Lib.hid (keeps HB0.out hb1)
  have HBX1 := Lib.hid (HBX.out.below hb1)
  have HG := Lib.hid hg
  clear hb1 hg HBX
  have x0 : w1.cell? ⟨w.heap.size, 0, none⟩ = some (.slice A n c) := HBX1.out.cell 0
  rcases (show g = true ∨ (g = false ∧ n = 0) ∨ (g = false ∧ 0 < n) by cases g <;> simp <;> omega) with rfl | ⟨rfl, h0⟩ | ⟨rfl, h0⟩
  · go_wp2_with fail
    refine (fixed_calls HP.out _).mono ?_
    rintro e w2 ⟨rfl, hb2⟩
    have HB2 := Lib.hid (keeps HB1.out hb2)
    clear hb2
    go_wp2_with fail
    go_ret
    exact ⟨rfl, HB2.out⟩
  · have z0 : ((n : Int) == 0) = true := by rw [h0]; rfl
    clear h0
    go_wp2_with fail
    refine (fixed_calls HP.out _).mono ?_
    rintro e w2 ⟨rfl, hb2⟩
    have HB2 := Lib.hid (keeps HB1.out hb2)
    clear hb2
    go_wp2_with fail
    go_ret
    exact ⟨rfl, HB2.out⟩
  · have z0 : ((n : Int) == 0) = false := by rw [beq_eq_false_iff_ne]; omega
    obtain ⟨hn200, hfit⟩ := HG.out rfl
    obtain ⟨xx, g, o, hz1, rfl, hg, hz2⟩ := HL.out.get 0 h0
    have HF := Lib.hid hfit
    have HGG := Lib.hid hg
    have hcn := HNC.out
    have hcm := HC.out
    unfold maxLen at hcm
    clear hfit HG hg hz1 hz2 xx
    go_wp2
    go_loopw [38] (fun i wr => ∃ k : Nat, k ≤ n ∧ i = .int .i64 k ∧ Hid (DistTo L k) ∧ Hid (Blk wr w.heap.size #[.slice (some ⟨g, o, none⟩) n c] 22) ∧ Below w.heap.size w wr) (fun i _ => n - (intOf i).toNat)
    case atStart => exact ⟨0, Nat.zero_le _, rfl, Lib.hid (fun i j x y hi => absurd hi (by omega)), HBX1, HB1.out⟩
    case round =>
      obtain ⟨k, hk, rfl, HD, HBXr, hbel⟩ := hrel
      have HBL := Lib.hid hbel
      have y0 : wr.cell? ⟨w.heap.size, 0, none⟩ = some (.slice (some ⟨g, o, none⟩) n c) := HBXr.out.cell 0
      clear x0
      by_cases hlt : k < n
      · obtain ⟨x, _, _, hxk, he, _, hcl⟩ := (HL.out.below hbel).get k hlt
        injection he with he
        injection he with he1 he2
        subst he1
        subst he2
        have HCL : Hid (wr.rangeAt g (o + k * 6) [.int .i64 x.cls, .bool x.opn, .int .i64 x.wear, .int .u64 x.age, .int .i64 x.need, .bool x.held]) := Lib.hid hcl
        have HXK := Lib.hid hxk
        have hb6 : Below w.heap.size w (wr.alloc (.cells #[.int .i64 x.cls, .bool x.opn, .int .i64 x.wear, .int .u64 x.age, .int .i64 x.need, .bool x.held] 29)) := hbel.alloc hbel.size _
        have HB6 := Lib.hid hb6
        have HBX6 := Lib.hid (HBXr.out.alloc (.cells #[.int .i64 x.cls, .bool x.opn, .int .i64 x.wear, .int .u64 x.age, .int .i64 x.need, .bool x.held] 29))
        have HXB := Lib.hid (Blk.new_ wr #[.int .i64 x.cls, .bool x.opn, .int .i64 x.wear, .int .u64 x.age, .int .i64 x.need, .bool x.held] 29)
        have y1 : (wr.alloc (.cells #[.int .i64 x.cls, .bool x.opn, .int .i64 x.wear, .int .u64 x.age, .int .i64 x.need, .bool x.held] 29)).cell? ⟨w.heap.size, 0, none⟩ = some (.slice (some ⟨g, o, none⟩) n c) := HBX6.out.cell 0
        clear hcl hxk hbel hb6
        go_wp2_with ((with_reducible refine pick (some 42) ?_); refine wpList_load_mid rfl 29 _ rfl g (o + k * 6) rfl [.int .i64 x.cls, .bool x.opn, .int .i64 x.wear, .int .u64 x.age, .int .i64 x.need, .bool x.held] _ HCL.out Try.underlying29 rfl info_inf6 ?_)
        rename World => wo
        go_loopw [47] (fun i wr => ∃ j : Nat, j ≤ k ∧ i = .int .i64 j ∧ Hid (RowTo L x j) ∧ Hid (Blk wr w.heap.size #[.slice (some ⟨g, o, none⟩) n c] 22) ∧ Hid (Blk wr wo.heap.size #[.int .i64 x.cls, .bool x.opn, .int .i64 x.wear, .int .u64 x.age, .int .i64 x.need, .bool x.held] 29) ∧ Below w.heap.size w wr) (fun i _ => k - (intOf i).toNat)
        case atStart => exact ⟨0, Nat.zero_le _, rfl, Lib.hid (fun j y hj => absurd hj (by omega)), HBX6, HXB, HB6.out⟩
        case round =>
          obtain ⟨j, hj, rfl, HR, HBXj, HXj, hbel⟩ := hrel
          clear y0 y1
          by_cases hlt2 : j < k
          · obtain ⟨y, _, _, hyk, he, _, hcl⟩ := (HL.out.below hbel).get j (by omega)
            injection he with he
            injection he with he1 he2
            subst he1
            subst he2
            have HCY : Hid (wr.rangeAt g (o + j * 6) [.int .i64 y.cls, .bool y.opn, .int .i64 y.wear, .int .u64 y.age, .int .i64 y.need, .bool y.held]) := Lib.hid hcl
            have HYK := Lib.hid hyk
            have hb7 : Below w.heap.size w (wr.alloc (.cells #[.int .i64 y.cls, .bool y.opn, .int .i64 y.wear, .int .u64 y.age, .int .i64 y.need, .bool y.held] 29)) := hbel.alloc hbel.size _
            have HB7 := Lib.hid hb7
            have HBX7 := Lib.hid (HBXj.out.alloc (.cells #[.int .i64 y.cls, .bool y.opn, .int .i64 y.wear, .int .u64 y.age, .int .i64 y.need, .bool y.held] 29))
            have HXB7 := Lib.hid (HXj.out.alloc (.cells #[.int .i64 y.cls, .bool y.opn, .int .i64 y.wear, .int .u64 y.age, .int .i64 y.need, .bool y.held] 29))
            have t2 : wr.cell? ⟨wo.heap.size, 2, none⟩ = some (.int .i64 x.wear) := HXj.out.cell 2
            have t3 : wr.cell? ⟨wo.heap.size, 3, none⟩ = some (.int .u64 x.age) := HXj.out.cell 3
            have hlo : wo.heap.size < wr.heap.size := HXj.out.lt
            clear hcl hyk hbel hb7
            rcases (show (x.wear == y.wear) = true ∨ ((x.wear == y.wear) = false ∧ (x.age == y.age) = true) ∨ ((x.wear == y.wear) = false ∧ (x.age == y.age) = false) by cases x.wear == y.wear <;> cases x.age == y.age <;> simp) with q1 | ⟨q1, q2⟩ | ⟨q1, q2⟩
            · go_wp2_with (first
                | ((with_reducible refine pick (some 50) ?_); refine wpList_load_mid rfl 29 _ rfl g (o + j * 6) rfl [.int .i64 y.cls, .bool y.opn, .int .i64 y.wear, .int .u64 y.age, .int .i64 y.need, .bool y.held] _ HCY.out Try.underlying29 rfl info_inf6 ?_)
                | (go_at_call 7; refine (fixed_calls HP.out _).mono ?_; rintro e w2 ⟨rfl, hb2⟩; have HB2 := Lib.hid (keeps HB7.out hb2); clear hb2))
              go_ret
              exact ⟨rfl, HB2.out⟩
            · go_wp2_with (first
                | ((with_reducible refine pick (some 50) ?_); refine wpList_load_mid rfl 29 _ rfl g (o + j * 6) rfl [.int .i64 y.cls, .bool y.opn, .int .i64 y.wear, .int .u64 y.age, .int .i64 y.need, .bool y.held] _ HCY.out Try.underlying29 rfl info_inf6 ?_)
                | (go_at_call 7; refine (fixed_calls HP.out _).mono ?_; rintro e w2 ⟨rfl, hb2⟩; have HB2 := Lib.hid (keeps HB7.out hb2); clear hb2))
              go_ret
              exact ⟨rfl, HB2.out⟩
            · have r1 : x.wear ≠ y.wear := by simpa using q1
              have r2 : x.age ≠ y.age := by simpa using q2
              have HR2 := Lib.hid (row_next HR.out HYK.out r1 r2)
              clear r1 r2
              go_wp2_with ((with_reducible refine pick (some 50) ?_); refine wpList_load_mid rfl 29 _ rfl g (o + j * 6) rfl [.int .i64 y.cls, .bool y.opn, .int .i64 y.wear, .int .u64 y.age, .int .i64 y.need, .bool y.held] _ HCY.out Try.underlying29 rfl info_inf6 ?_)
              go_roundw
              case rel => exact ⟨j + 1, by omega, by go_num, HR2, HBX7, HXB7, HB7.out⟩
              case measure => simp [intOf]; omega
          · obtain rfl : j = k := by omega
            have HBL2 := Lib.hid hbel
            clear hbel
            go_wp2_with fail
            go_roundw
            case rel => exact ⟨j + 1, by omega, by go_num, Lib.hid (dist_next HD.out HXK.out HR.out), HBXj, HBL2.out⟩
            case measure => simp [intOf]; omega
      · obtain rfl : k = n := by omega
        have HDD := Lib.hid (dist_all (by rw [HL.out.1]; exact HD.out))
        clear hbel
        obtain ⟨K, hK⟩ : ∃ K : Nat, b % (k : Int) = K := ⟨(b % (k : Int)).toNat, by have := Int.emod_nonneg b (show (k : Int) ≠ 0 by omega); omega⟩
        have hKn : K < k := by have := Int.emod_lt_of_pos b (show (0 : Int) < k by omega); omega
        have hnz : ¬ k = 0 := by omega
        have hlo : w.heap.size < wr.heap.size := HBXr.out.lt
        have hKc : (K : Int) ≤ c := by omega
        have hKc2 : ¬ c = K := by omega
        go_upto_region 14 with (fail)
        obtain ⟨W1, hW1⟩ : ∃ W1, wr.alloc (.cells #[.int .i64 (K : Nat)] 3) = W1 := ⟨_, rfl⟩
        have q1 := Blk.new_ wr #[.int .i64 (K : Nat)] 3
        have q2 := HBXr.out.alloc (.cells #[.int .i64 (K : Nat)] 3)
        have q3 : Below w.heap.size w (wr.alloc (.cells #[.int .i64 (K : Nat)] 3)) := HBL.out.alloc HBL.out.size _
        rw [hW1] at q1 q2 q3
        change Code.wp _ _ _ _ (wr.alloc (.cells #[.int .i64 (K : Nat)] 3))
        rw [hW1]
        obtain ⟨bk, hbk⟩ : ∃ bk, wr.heap.size = bk := ⟨_, rfl⟩
        rw [hbk] at q1 hlo ⊢
        have QK := Lib.hid q1
        have QB := Lib.hid q2
        have QW := Lib.hid q3
        clear q1 q2 q3 hW1 hbk y0 hK HBL HBXr
        have hlen := HL.out.1
        have hrl : (rot K L).length = k := by rw [rot_len K L (by rw [hlen]; omega), hlen]
        have HN1 := Lib.hid (show k ≤ 100000 by omega)
        have HFR := Lib.hid (fit_rot HF.out K)
        have hk0 := Lib.hid h0
        have hn2 := Lib.hid hn200
        have hKh := Lib.hid hKn
        obtain ⟨bw, bw2, f1, g1, m1, j1⟩ := rot_is (n := k) (rot_write (by rw [hlen]; exact hKn) HDD.out) hlen (fun i x h => by rw [← hrl]; exact is_best h)
        obtain ⟨be, be2, f2, g2, m2, j2⟩ := rot_is (n := k) (rot_erase (by rw [hlen]; exact hKn) HDD.out) hlen (fun i x h => by rw [← hrl]; exact is_erase i x h)
        obtain ⟨bo, bo2, f3, g3, m3, j3⟩ := rot_is (n := k) (rot_once (by rw [hlen]; exact hKn) HDD.out) hlen (fun i x h => by rw [← hrl]; exact is_best h)
        obtain ⟨bl, bl2, f4, g4, m4, j4⟩ := rot_is (n := k) (rot_old (by rw [hlen]; exact hKn) HDD.out) hlen (fun i x h => by rw [← hrl]; exact is_best h)
        have Fw := Lib.hid f1
        have Gw := Lib.hid g1
        have Mw := Lib.hid m1
        have Iw := Lib.hid j1
        have s1 := same_num bw
        have r1 := same_is bw
        have Fe := Lib.hid f2
        have Ge := Lib.hid g2
        have Me := Lib.hid m2
        have Ie := Lib.hid j2
        have s2 := same_num be
        have r2 := same_is be
        have Fo := Lib.hid f3
        have Go := Lib.hid g3
        have Mo := Lib.hid m3
        have Io := Lib.hid j3
        have s3 := same_num bo
        have r3 := same_is bo
        have Fl := Lib.hid f4
        have Gl := Lib.hid g4
        have Ml := Lib.hid m4
        have Il := Lib.hid j4
        have s4 := same_num bl
        have r4 := same_is bl
        clear hlen hrl f1 f2 f3 f4 g1 g2 g3 g4 m1 m2 m3 m4 j1 j2 j3 j4
        have hs0 := So.new_ infE 29 W1 (base := w.heap.size) QW.out.size
        have QS0 := Lib.hid hs0
        have QW2 : Hid (Below w.heap.size w (W1.alloc (.cells #[] 29))) := Lib.hid (QW.out.alloc QW.out.size _)
        have QD : Hid (Sl infE (W1.alloc (.cells #[] 29)) (some ⟨g, o + K * 6, none⟩) (k - K) (L.drop K)) := Lib.hid ((HL.out.below QW2.out).drop K)
        have QB2 := Lib.hid (QB.out.alloc (.cells #[] 29))
        have QK2 := Lib.hid (QK.out.alloc (.cells #[] 29))
        have t1 : W1.cell? ⟨w.heap.size, 0, none⟩ = some (.slice (some ⟨g, o, none⟩) k c) := QB.out.cell 0
        have t2 : W1.cell? ⟨bk, 0, none⟩ = some (.int .i64 (K : Nat)) := QK.out.cell 0
        have l1 : w.heap.size < W1.heap.size := QB.out.lt
        have l2 : bk < W1.heap.size := QK.out.lt
        clear hs0
        go_wp2_with (first
          | ((with_reducible refine pick (some 75) ?_); refine wpList_append_lst infE 29 rfl _ _ _ rfl Try.underlying22 info_inf rfl w.heap.size _ 0 [] rfl QS0.out g (o + K * 6) (k - K) (c - K) (L.drop K) rfl QD.out (k - K) (Nat.zero_add _) (L.drop K) rfl (by unfold maxLen; omega) (by omega) QW2.out.size ?_; intro v1 w2 ho1 hg1 _ _; clear t1 t2; have t1 : w2.cell? ⟨w.heap.size, 0, none⟩ = some (.slice (some ⟨g, o, none⟩) k c) := (show Blk w2 w.heap.size #[.slice (some ⟨g, o, none⟩) k c] 22 from QS0.out.stays hg1 QB2.out (by decide)).cell 0; have t2 : w2.cell? ⟨bk, 0, none⟩ = some (.int .i64 (K : Nat)) := (show Blk w2 bk #[.int .i64 (K : Nat)] 3 from QS0.out.stays hg1 QK2.out (by decide)).cell 0; have QB3 : Hid (Blk w2 w.heap.size #[.slice (some ⟨g, o, none⟩) k c] 22) := Lib.hid (QS0.out.stays hg1 QB2.out (by decide)); have QK3 : Hid (Blk w2 bk #[.int .i64 (K : Nat)] 3) := Lib.hid (QS0.out.stays hg1 QK2.out (by decide)); have QW3 : Hid (Below w.heap.size w w2) := Lib.hid (QW2.out.grown hg1 QW2.out.size (fun x hx => (QS0.out.lt hx).1)); have QS1 := Lib.hid ho1; clear ho1 hg1 QS0 QW2 QB2 QK2 QB QK QW QD l1 l2)
          | ((with_reducible refine pick (some 80) ?_); refine wpList_append_lst infE 29 rfl _ _ _ rfl Try.underlying22 info_inf rfl w.heap.size _ (k - K) (L.drop K) rfl QS1.out g o K c (L.take K) rfl ((HL.out.below QW3.out).take K (by omega)) k (by omega) (rot K L) rfl (by unfold maxLen; omega) (by omega) QW3.out.size ?_; intro v2 w3 ho2 hg2 _ _; clear t1 t2; have t1 : w3.cell? ⟨w.heap.size, 0, none⟩ = some (.slice (some ⟨g, o, none⟩) k c) := (show Blk w3 w.heap.size #[.slice (some ⟨g, o, none⟩) k c] 22 from QS1.out.stays hg2 QB3.out (by decide)).cell 0; have QB4 : Hid (Blk w3 w.heap.size #[.slice (some ⟨g, o, none⟩) k c] 22) := Lib.hid (QS1.out.stays hg2 QB3.out (by decide)); have QK4 : Hid (Blk w3 bk #[.int .i64 (K : Nat)] 3) := Lib.hid (QS1.out.stays hg2 QK3.out (by decide)); have QW4 : Hid (Below w.heap.size w w3) := Lib.hid (QW3.out.grown hg2 QW3.out.size (fun x hx => (QS1.out.lt hx).1)); obtain ⟨gm, cm, hv2, hcm1, hcm2⟩ : ∃ gm cm, v2 = .slice (some ⟨gm, 0, none⟩) k cm ∧ k ≤ cm ∧ cm ≤ maxLen := (by rcases ho2.form with ⟨_, h0⟩ | ⟨gm, cm, h1, _, _, h2, h3⟩; exact absurd h0 hnz; exact ⟨gm, cm, h1, h2, h3⟩); subst hv2; have QS2 := Lib.hid ho2.sl; have QC1 := Lib.hid hcm1; have QC2 := Lib.hid hcm2; clear ho2 hg2 hcm1 hcm2 QS1 QW3 QB3 QK3))
        refine (pick_is HP.out.write (HL.out.below QW4.out) HNC.out HC.out HN1.out HF.out Fw.out).mono ?_
        rintro e u5 ⟨rfl, hb5⟩
        have QWa := Lib.hid (keeps QW4.out hb5)
        have QBa := Lib.hid (QB4.out.below hb5)
        have QKa := Lib.hid (QK4.out.below hb5)
        have QSa := Lib.hid (QS2.out.below hb5)
        clear hb5 t1 QW4 QB4 QK4 QS2
        go_wp2_with fail
        refine (pick_is HP.out.write QSa.out QC1.out QC2.out HN1.out HFR.out Gw.out).mono ?_
        rintro e u6 ⟨rfl, hb6⟩
        have QW4 := Lib.hid (keeps QWa.out hb6)
        have QB4 := Lib.hid (QBa.out.below hb6)
        have QK4 := Lib.hid (QKa.out.below hb6)
        have QS2 := Lib.hid (QSa.out.below hb6)
        clear hb6 QWa QBa QKa QSa
        go_wp2_with fail
        refine (back_calls _ _ g o k c K bw2 bw _ QK4.out QB4.out Iw.out hk0.out hn2.out hKh.out Mw.out).mono ?_
        rintro e u7 ⟨rfl, rfl⟩
        have t1 : u6.cell? ⟨w.heap.size, 0, none⟩ = some (.slice (some ⟨g, o, none⟩) k c) := QB4.out.cell 0
        go_wp2_with fail
        refine (pick_is HP.out.erase (HL.out.below QW4.out) HNC.out HC.out HN1.out HF.out Fe.out).mono ?_
        rintro e u7 ⟨rfl, hb7⟩
        have QWa := Lib.hid (keeps QW4.out hb7)
        have QBa := Lib.hid (QB4.out.below hb7)
        have QKa := Lib.hid (QK4.out.below hb7)
        have QSa := Lib.hid (QS2.out.below hb7)
        clear hb7 t1 QW4 QB4 QK4 QS2
        go_wp2_with fail
        refine (pick_is HP.out.erase QSa.out QC1.out QC2.out HN1.out HFR.out Ge.out).mono ?_
        rintro e u8 ⟨rfl, hb8⟩
        have QW4 := Lib.hid (keeps QWa.out hb8)
        have QB4 := Lib.hid (QBa.out.below hb8)
        have QK4 := Lib.hid (QKa.out.below hb8)
        have QS2 := Lib.hid (QSa.out.below hb8)
        clear hb8 QWa QBa QKa QSa
        go_wp2_with fail
        refine (back_calls _ _ g o k c K be2 be _ QK4.out QB4.out Ie.out hk0.out hn2.out hKh.out Me.out).mono ?_
        rintro e u9 ⟨rfl, rfl⟩
        have t1 : u8.cell? ⟨w.heap.size, 0, none⟩ = some (.slice (some ⟨g, o, none⟩) k c) := QB4.out.cell 0
        go_wp2_with fail
        refine (pick_is HP.out.once (HL.out.below QW4.out) HNC.out HC.out HN1.out HF.out Fo.out).mono ?_
        rintro e u9 ⟨rfl, hb9⟩
        have QWa := Lib.hid (keeps QW4.out hb9)
        have QBa := Lib.hid (QB4.out.below hb9)
        have QKa := Lib.hid (QK4.out.below hb9)
        have QSa := Lib.hid (QS2.out.below hb9)
        clear hb9 t1 QW4 QB4 QK4 QS2
        go_wp2_with fail
        refine (pick_is HP.out.once QSa.out QC1.out QC2.out HN1.out HFR.out Go.out).mono ?_
        rintro e u10 ⟨rfl, hb10⟩
        have QW4 := Lib.hid (keeps QWa.out hb10)
        have QB4 := Lib.hid (QBa.out.below hb10)
        have QK4 := Lib.hid (QKa.out.below hb10)
        have QS2 := Lib.hid (QSa.out.below hb10)
        clear hb10 QWa QBa QKa QSa
        go_wp2_with fail
        refine (back_calls _ _ g o k c K bo2 bo _ QK4.out QB4.out Io.out hk0.out hn2.out hKh.out Mo.out).mono ?_
        rintro e u11 ⟨rfl, rfl⟩
        have t1 : u10.cell? ⟨w.heap.size, 0, none⟩ = some (.slice (some ⟨g, o, none⟩) k c) := QB4.out.cell 0
        go_wp2_with fail
        refine (pick_is HP.out.old (HL.out.below QW4.out) HNC.out HC.out HN1.out HF.out Fl.out).mono ?_
        rintro e u11 ⟨rfl, hb11⟩
        have QWa := Lib.hid (keeps QW4.out hb11)
        have QBa := Lib.hid (QB4.out.below hb11)
        have QKa := Lib.hid (QK4.out.below hb11)
        have QSa := Lib.hid (QS2.out.below hb11)
        clear hb11 t1 QW4 QB4 QK4 QS2
        go_wp2_with fail
        refine (pick_is HP.out.old QSa.out QC1.out QC2.out HN1.out HFR.out Gl.out).mono ?_
        rintro e u12 ⟨rfl, hb12⟩
        have QW4 := Lib.hid (keeps QWa.out hb12)
        have QB4 := Lib.hid (QBa.out.below hb12)
        have QK4 := Lib.hid (QKa.out.below hb12)
        have QS2 := Lib.hid (QSa.out.below hb12)
        clear hb12 QWa QBa QKa QSa
        go_wp2_with fail
        refine (back_calls _ _ g o k c K bl2 bl _ QK4.out QB4.out Il.out hk0.out hn2.out hKh.out Ml.out).mono ?_
        rintro e u13 ⟨rfl, rfl⟩
        have t1 : u12.cell? ⟨w.heap.size, 0, none⟩ = some (.slice (some ⟨g, o, none⟩) k c) := QB4.out.cell 0
        go_wp2_with fail
        refine (fixed_calls HP.out _).mono ?_
        rintro e u20 ⟨rfl, hb20⟩
        have HZ := Lib.hid (keeps QW4.out hb20)
        clear hb20
        go_wp2_with fail
        go_ret
        exact ⟨rfl, HZ.out⟩
end Go.Proofs.Ythpgpomkilnlgaa.PickB
