/- The walk of layer 7's law RingOrder, over what the project's functions are asked. -/
import Derived.Test.YthmcakaboebagaaRingS
import Derived.Deep.QuietTactic
import Derived.BigQuiet
import Derived.IntWalk
namespace Go.Proofs.Ythmcakaboebagaa.RingL
set_option linter.unusedVariables false
set_option linter.unusedSimpArgs false
open Go.RowKit
open Go.Proofs.Ythmcakaboebagaa.Byte Go.Proofs.Ythmcakaboebagaa.RingM Go.Proofs.Ythmcakaboebagaa.RingC Go.Proofs.Ythmcakaboebagaa.RingK Go.Proofs.Ythmcakaboebagaa.RingV Go.Proofs.Ythmcakaboebagaa.RingF Go.Proofs.Ythmcakaboebagaa.RingS Go.Proofs.Ythmcakaboebagaa.Own

def FixedOk : Prop := ∀ w : World, Calls Try.prog 7 #[] w fun e w' => e = .returned (.bool true) ∧ Below w.heap.size w w'
def CountOk : Prop := ∀ (A : Option Addr) (n c : Nat) (L : List Fnd) (w : World), FsAt w A n L → n ≤ 100 → n ≤ c → (∀ x ∈ L, 0 ≤ x.item.seq ∧ x.item.seq ≤ 18446744073709551615) → Calls Try.prog 11 #[.slice A n c] w fun e w' => ∃ A' c', e = .returned (.slice A' n c') ∧ Own.Bl w' A' n (fun i => (L.map (cnt L)).getD i false) ∧ Below w.heap.size w w'
theorem slice_lo {w : World} {g n cap q : Nat} (hq : q < n) (hc : n ≤ cap) : (Instr.sliceAt 28 (.slice (some ⟨g, 0, none⟩) n cap) (some (.int .i64 q)) none none).run Try.prog w = .ok (.slice (some ⟨g, q * 11, none⟩) (n - q) (cap - q)) w := by
  have hs : (sizeOf (Try.prog.elem 28)).run Try.prog w = .ok 11 w := by kernel_rfl
  have hT : Try.prog.underlying 28 = some (.slice (Try.prog.elem 28)) := by kernel_rfl
  have r := run_slice_l (P := Try.prog) (w := w) 28 (some ⟨g, 0, none⟩) n cap hT .i64 q (by omega) (by omega)
  rw [hs] at r
  rw [run_sliceAt_slice (h := hT), r]
  show Result.ok _ w = _
  unfold sliced
  have e : ¬ cap = q := by omega
  rw [Int.toNat_natCast, if_neg e]
  show Result.ok (Value.slice (some ((⟨g, 0, none⟩ : Addr).add (q * 11))) _ _) w = _
  rw [Addr.add_mid, Nat.zero_add]
theorem slice_hi {w : World} {g n cap q : Nat} (hq : q ≤ cap) (hc : 0 < cap) : (Instr.sliceAt 28 (.slice (some ⟨g, 0, none⟩) n cap) none (some (.int .i64 q)) none).run Try.prog w = .ok (.slice (some ⟨g, 0, none⟩) q cap) w := by
  have hs : (sizeOf (Try.prog.elem 28)).run Try.prog w = .ok 11 w := by kernel_rfl
  have hT : Try.prog.underlying 28 = some (.slice (Try.prog.elem 28)) := by kernel_rfl
  have r := run_slice_h (P := Try.prog) (w := w) 28 (some ⟨g, 0, none⟩) n cap hT .i64 q (by omega) (by omega)
  rw [hs] at r
  rw [run_sliceAt_slice (h := hT), r]
  show Result.ok _ w = _
  unfold sliced
  have e : ¬ cap = 0 := by omega
  simp [Addr.add, e]
/-- Turned round, each one counts as it did. -/
theorem turned (L : List Fnd) (q i : Nat) (hq : q < L.length) (hi : i < L.length) :
    ((L.drop q ++ L.take q).map (cnt (L.drop q ++ L.take q))).getD ((i + L.length - q) % L.length) false = (L.map (cnt L)).getD i false := by
  have h1 : (i + L.length - q) % L.length < L.length := Nat.mod_lt _ (by omega)
  have hl : (L.drop q ++ L.take q).length = L.length := by rw [List.length_append, List.length_drop, List.length_take]; omega
  have e : (L.drop q ++ L.take q)[(i + L.length - q) % L.length]? = L[i]? := by
    rcases Nat.lt_or_ge i q with h | h
    · have e1 : (i + L.length - q) % L.length = i + L.length - q := Nat.mod_eq_of_lt (by omega)
      rw [e1, List.getElem?_append_right (by rw [List.length_drop]; omega), List.length_drop, show i + L.length - q - (L.length - q) = i by omega, List.getElem?_take_of_lt h]
    · have e1 : (i + L.length - q) % L.length = i - q := by
        rw [show i + L.length - q = (i - q) + L.length by omega, Nat.add_mod_right, Nat.mod_eq_of_lt (by omega)]
      rw [e1, List.getElem?_append_left (by rw [List.length_drop]; omega), List.getElem?_drop]
      congr 1
      omega
  rw [List.getD_eq_getElem?_getD, List.getD_eq_getElem?_getD, List.getElem?_map, List.getElem?_map, e]
  congr 2
  funext x
  rw [cnt_turn]
set_option maxRecDepth 100000 in
set_option maxHeartbeats 4000000 in
theorem order_law (hX : FixedOk) (hS : SizeOk) (hC : CountOk) (A : Option Addr) (n c : Nat) (ps : Nat → Pr) (m : Int) (w : World) (hp : PrsAt w A n ps) (hn : n ≤ maxLen) (hk : ∀ j, j < n → (ps j).key.size ≤ maxLen ∧ (ps j).value.size ≤ maxLen ∧ 0 ≤ (ps j).seq ∧ (ps j).seq ≤ 18446744073709551615) (hm0 : 0 ≤ m) (hm1 : m ≤ 255) :
    Calls Try.prog 6 #[.slice A n c, .int .u8 m] w fun e w' => e = .returned (.bool true) ∧ Below w.heap.size w w' := by
  unfold maxLen at hn
  have HX := Lib.hid hX
  clear hX
  rcases (show 60 < n ∨ n = 0 ∨ (n ≤ 60 ∧ 0 < n) by omega) with h | h | ⟨h, h0⟩
  · have d : decide (60 < (n : Int)) = true := by simp; omega
    go_enter Try.func6, Try.ntmps6
    go_wp2_with (go_at_call 7; refine (HX.out _).mono ?_; rintro e w' ⟨rfl, hbel⟩)
    go_ret
    exact ⟨rfl, hbel⟩
  · subst h
    go_enter Try.func6, Try.ntmps6
    go_wp2_with (go_at_call 7; refine (HX.out _).mono ?_; rintro e w' ⟨rfl, hbel⟩)
    go_ret
    exact ⟨rfl, hbel⟩
  · have d : decide (60 < (n : Int)) = false := by simp; omega
    have d0 : ((n : Int) == 0) = false := by rw [beq_eq_false_iff_ne]; omega
    have HF := Lib.hid (found_calls A n c ps w hS hp h (fun j hj => ⟨(hk j hj).1, (hk j hj).2.1⟩))
    have HC := Lib.hid hC
    have hqb : 0 ≤ m % (n : Int) ∧ m % (n : Int) < n := ⟨Int.emod_nonneg _ (by omega), Int.emod_lt_of_pos _ (by omega)⟩
    obtain ⟨q, hq⟩ := Int.eq_ofNat_of_zero_le hqb.1
    have hqn : q < n := by omega
    obtain ⟨L, hL⟩ : ∃ L, (List.range n).map (fun j => (ps j).fd) = L := ⟨_, rfl⟩
    have hLl : L.length = n := by rw [← hL]; simp
    have hwf : ∀ x ∈ L, 0 ≤ x.item.seq ∧ x.item.seq ≤ 18446744073709551615 := fun x hx => by
      rw [← hL] at hx
      obtain ⟨j, hj, rfl⟩ := List.mem_map.1 hx
      exact (hk j (List.mem_range.1 hj)).2.2
    have HWF := Lib.hid hwf
    have HWT : Hid (∀ x ∈ L.drop q ++ L.take q, 0 ≤ x.item.seq ∧ x.item.seq ≤ 18446744073709551615) := Lib.hid (fun x hx => hwf x (by
      rcases List.mem_append.1 hx with h | h
      · exact List.mem_of_mem_drop h
      · exact List.mem_of_mem_take h))
    clear hwf
    have HL := Lib.hid hL
    have HLL := Lib.hid hLl
    clear hp hk hS hC hqb hL hLl
    go_enter Try.func6, Try.ntmps6
    go_wp2_with fail
    refine (HF.out).mono ?_
    rintro e w1 ⟨v, rfl, hrow, hb1⟩
    obtain ⟨g, cap, rfl, hfo⟩ : ∃ g cap, v = .slice (some ⟨g, 0, none⟩) n cap ∧ Fo w1 w.heap.size g n cap L := by
      have hf : (List.range n).flatMap (fun j => ((ps j).fd).cells) = flat L := by rw [← HL.out]; unfold flat; rw [List.flatMap_map]
      unfold Fds at hrow
      rw [hf] at hrow
      rcases hrow.2 with ⟨_, h1⟩ | ⟨g, cap, cur, rfl, r⟩
      · omega
      · exact ⟨g, cap, rfl, HLL.out, hrow⟩
    have HFO := Lib.hid hfo
    have HB1 := Lib.hid hb1
    have hcap := hfo.capLe
    have hpl := hfo.place
    have s1 := fun w : World => slice_lo (w := w) (g := g) (n := n) (cap := cap) (q := q) hqn hcap
    have s2 := fun w : World => slice_hi (w := w) (g := g) (n := n) (cap := cap) (q := q) (by omega) (by omega)
    clear hrow hb1 hfo
    go_wp2_with (first
      | ((with_reducible refine pick (some 31) ?_); refine wpList_append_fnds rfl (.tmp 27) (.tmp 30) rfl w1.heap.size w1.heap.size 0 0 [] rfl (Fo.new_ w1 (Nat.le_refl _)) g (q * 11) (n - q) (cap - q) (L.drop q) rfl (((HFO.out.fs.below ((Below.refl _ _).alloc (Nat.le_refl _) _)).drop q) |> fun h => by simpa using h) (n - q) (by omega) (L.drop q) rfl (by omega) (by simp) ?_; intro g2 cap2 w2 hown2 hg2 _; have hb2 : Below w1.heap.size w1 w2 := ((Below.refl _ _).alloc (Nat.le_refl _) _).grown hg2 (by simp) (by intro k hk; injection hk with hk; omega); have hz2 := hb2.size; have hp2 := hown2.place)
      | ((with_reducible refine pick (some 36) ?_); refine wpList_append_fnds rfl (.tmp 32) (.tmp 35) rfl w1.heap.size g2 (n - q) cap2 (L.drop q) rfl hown2 g 0 q cap (L.take q) rfl ((HFO.out.fs.below hb2).take q (by omega)) n (by omega) (L.drop q ++ L.take q) rfl (by omega) (by omega) ?_; intro g3 cap3 w3 hown3 hg3 _; have hb3 : Below w1.heap.size w1 w3 := hb2.grown hg3 (by omega) (by intro k hk; injection hk with hk; omega)))
    have HF3 := Lib.hid (HFO.out.below hb3)
    have HT3 := Lib.hid hown3
    have HB3 := Lib.hid (keeps HB1.out hb3)
    clear hown3 hb3 hown2 hb2 hg2 hg3
    refine (HC.out _ n cap L _ HF3.out.fs (by omega) HF3.out.capLe HWF.out).mono ?_
    rintro e w4 ⟨A4, c4, rfl, hbl4, hb4⟩
    have HT4 := Lib.hid (HT3.out.below hb4)
    have HL4 := Lib.hid hbl4
    have HB4 := Lib.hid (keeps HB3.out hb4)
    clear hbl4 hb4
    go_wp2_with fail
    refine (HC.out _ n cap3 _ _ HT4.out.fs (by omega) HT4.out.capLe HWT.out).mono ?_
    rintro e w5 ⟨A5, c5, rfl, hbl5, hb5⟩
    have HL5 := Lib.hid hbl5
    have HL4' := Lib.hid (HL4.out.below hb5)
    have HB5 := Lib.hid (keeps HB4.out hb5)
    clear hbl5 hb5
    go_wp2_with fail
    go_loopw [10, 55] (fun _ i wr => ∃ j : Nat, j ≤ n ∧ i = .int .i64 j ∧ Below w5.heap.size w5 wr) (fun _ i _ => n - (intOf i).toNat)
    case atStart => exact ⟨0, Nat.zero_le _, rfl, Below.refl _ _⟩
    case round =>
      obtain ⟨j, hj, rfl, hbel⟩ := hrel
      have HBW := Lib.hid hbel
      by_cases hlt : j < n
      · obtain ⟨bA, oA, rfl, _, ca⟩ := (HL4'.out.below hbel) j hlt
        have hr : (j + n - q) % n < n := Nat.mod_lt _ h0
        obtain ⟨bB, oB, rfl, _, cb⟩ := (HL5.out.below hbel) ((j + n - q) % n) hr
        have ht := turned L q j (by rw [HLL.out]; exact hqn) (by rw [HLL.out]; exact hlt)
        rw [HLL.out] at ht
        dsimp only at ca cb
        rw [ht] at cb
        generalize (L.map (cnt L)).getD j false = bv at ca cb
        have e3 : ((j : Int) + n - q).tmod (n : Int) = (((j + n - q) % n : Nat) : Int) := by
          have hc : ((j : Int) + n - q) = ((j + n - q : Nat) : Int) := by omega
          rw [Int.tmod_eq_emod_of_nonneg (by omega), hc]
          rfl
        have e1 : IntKind.i64.wrap ((j : Int) + n) = (j : Int) + n := IntWalk.i64_in _ (by omega)
        have e2 : IntKind.i64.wrap ((j : Int) + n - q) = (j : Int) + n - q := IntWalk.i64_in _ (by omega)
        obtain ⟨r, hre⟩ : ∃ r, (j + n - q) % n = r := ⟨_, rfl⟩
        rw [hre] at e3 cb hr
        have e4 : IntKind.i64.wrap (r : Int) = (r : Int) := IntWalk.i64_in _ (by omega)
        have eb : (bv != bv) = false := by simp
        have nz : ¬ (n : Int) = 0 := by omega
        have nz2 : ((n : Int) == 0) = false := d0
        have hri : (r : Int) < (n : Int) := by omega
        have hji : (j : Int) < (n : Int) := by omega
        clear hre ht hbel
        go_wp2_with fail
        go_quiet (fail)
        go_wp2_with fail
        go_roundw
        case rel => exact ⟨j + 1, by omega, by go_num, HBW.out.trans (below_drewN (Below.refl _ _) _)⟩
        case measure => simp [intOf]; omega
      · obtain rfl : j = n := by omega
        clear hbel
        go_wp2_with fail
        refine (HX.out _).mono ?_
        rintro e w6 ⟨rfl, hb6⟩
        have HB6 := Lib.hid (keeps (keeps HB5.out HBW.out) hb6)
        clear hb6
        go_wp2_with fail
        go_ret
        exact ⟨rfl, HB6.out⟩
end Go.Proofs.Ythmcakaboebagaa.RingL
