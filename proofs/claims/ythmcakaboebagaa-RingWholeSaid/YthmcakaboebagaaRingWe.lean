/- The walk of layer 7's law RingWhole. -/
import Derived.Test.YthmcakaboebagaaRingWn
import Derived.Test.YthmcakaboebagaaRingT
import Derived.Test.YthmcakaboebagaaRingL
import Derived.IntWalk
namespace Go.Proofs.Ythmcakaboebagaa.RingWe
set_option linter.unusedVariables false
set_option linter.unusedSimpArgs false
open Go.RowKit
open Go.Proofs.Ythmcakaboebagaa.Byte Go.Proofs.Ythmcakaboebagaa.RingM Go.Proofs.Ythmcakaboebagaa.RingC Go.Proofs.Ythmcakaboebagaa.RingK Go.Proofs.Ythmcakaboebagaa.RingF Go.Proofs.Ythmcakaboebagaa.RingS Go.Proofs.Ythmcakaboebagaa.RingD Go.Proofs.Ythmcakaboebagaa.RingT Go.Proofs.Ythmcakaboebagaa.RingL Go.Proofs.Ythmcakaboebagaa.RingWl Go.Proofs.Ythmcakaboebagaa.RingWn Go.Proofs.Ythmcakaboebagaa.Rw Go.Proofs.Ythmcakaboebagaa.Own

theorem eq_none (v : World) : (binOp .eql 28 (.slice none 0 0) (.slice none 0 0)).run Try.prog v = .ok (.bool true) v := by kernel_rfl
theorem eq_some (g n cap : Nat) (v : World) : (binOp .eql 28 (.slice (some ⟨g, 0, none⟩) n cap) (.slice none 0 0)).run Try.prog v = .ok (.bool false) v := by kernel_rfl
set_option maxRecDepth 100000 in
set_option maxHeartbeats 4000000 in
theorem whole_law (A B : Option Addr) (seq lost : Int) (n c ns cs : Nat) (ps : Nat → Pa) (S : Nat → Bool) (w : World) (hs0 : 0 ≤ seq) (hs1 : seq ≤ 18446744073709551615)
    (hp : Rs w A n 3 (fun j => (ps j).cells)) (hk : ∀ j, j < n → (ps j).key.size ≤ maxLen ∧ (ps j).value.size ≤ maxLen) (hS : Own.Bl w B ns S)
    (hl0 : 0 ≤ lost) (hl1 : lost ≤ 255) (hn : n ≤ maxLen) (hns : ns ≤ maxLen) :
    Calls Try.prog 4 #[.int .u64 seq, .slice A n c, .int .u8 lost, .slice B ns cs] w fun e w' => e = .returned (.bool true) ∧ Below w.heap.size w w' := by
  unfold maxLen at hn hns
  have X := Lib.hid fixed_calls
  rcases (show 100 < n ∨ n = 0 ∨ (n ≤ 100 ∧ 0 < n) by omega) with h | h | ⟨h, h0⟩
  · have d : decide (100 < (n : Int)) = true := by simp; omega
    go_enter Try.func4, Try.ntmps4
    go_wp2_with (go_at_call 7; refine (X.out _).mono ?_; rintro e w' ⟨rfl, hbel⟩)
    go_ret
    exact ⟨rfl, hbel⟩
  · subst h
    go_enter Try.func4, Try.ntmps4
    go_wp2_with (go_at_call 7; refine (X.out _).mono ?_; rintro e w' ⟨rfl, hbel⟩)
    go_ret
    exact ⟨rfl, hbel⟩
  · have d : decide (100 < (n : Int)) = false := by simp; omega
    have d0 : ((n : Int) == 0) = false := by rw [beq_eq_false_iff_ne]; omega
    have HF := Lib.hid (linked_calls A seq n c ps w h0 h hp hk)
    have HS := Lib.hid hS
    have HC := Lib.hid (fun A n c L w h1 h2 h4 => RingZ.count_calls A n c L w h1 h2 h4)
    have hqb : 0 ≤ lost % (n : Int) ∧ lost % (n : Int) < n := ⟨Int.emod_nonneg _ (by omega), Int.emod_lt_of_pos _ (by omega)⟩
    obtain ⟨q, hq⟩ := Int.eq_ofNat_of_zero_le hqb.1
    have hqn : q < n := by omega
    obtain ⟨m, hm⟩ : ∃ m, m + 1 = n := ⟨n - 1, by omega⟩
    have HCN := Lib.hid (fun i hi => cnt_linked seq n ps h0 h i hi)
    have HSQ : Hid (∀ x ∈ (List.range n).map (fdl seq n ps), RingY.wfs x.item.seq) := Lib.hid (fun x hx => by obtain ⟨j, _, rfl⟩ := mem_fdl hx; exact ⟨hs0, hs1⟩)
    have HLI := Lib.hid (less_is seq n m ps q hqn hm)
    clear hp hk hS hqb
    go_enter Try.func4, Try.ntmps4
    go_wp2_with fail
    refine (HF.out).mono ?_
    rintro e w1 (⟨rfl, hb1⟩ | ⟨g, cap, rfl, hfo, hmay, hb1⟩)
    · have HB1 := Lib.hid hb1
      clear hb1
      have q1 := eq_none
      go_wp2_with fail
      refine (X.out _).mono ?_
      rintro e w2 ⟨rfl, hb2⟩
      have HB2 := Lib.hid (keeps HB1.out hb2)
      clear hb2
      go_wp2_with fail
      go_ret
      exact ⟨rfl, HB2.out⟩
    · have HFO := Lib.hid hfo
      have HB1 := Lib.hid hb1
      have hcap := hfo.capLe
      clear hmay hb1 hfo
      have q1 := eq_some g n cap
      go_wp2_with fail
      refine (HC.out _ n cap _ _ HFO.out.fs h HSQ.out).mono ?_
      rintro e w2 ⟨A2, c2, rfl, hbl2, hb2⟩
      have HL2 := Lib.hid hbl2
      have HF2 := Lib.hid (HFO.out.below hb2)
      have HB2 := Lib.hid (keeps HB1.out hb2)
      clear hbl2 hb2 HFO
      go_wp2_with fail
      go_loopw [35] (fun i wr => ∃ j : Nat, j ≤ n ∧ i = .int .i64 j ∧ Below w2.heap.size w2 wr) (fun i _ => n - (intOf i).toNat)
      case atStart => exact ⟨0, Nat.zero_le _, rfl, Below.refl _ _⟩
      case round =>
        obtain ⟨j, hj, rfl, hbel⟩ := hrel
        have HBW := Lib.hid hbel
        by_cases hlt : j < n
        · obtain ⟨bA, oA, rfl, _, ca⟩ := (HL2.out.below hbel) j hlt
          dsimp only at ca
          rw [HCN.out j hlt] at ca
          have hji : (j : Int) < (n : Int) := by omega
          clear hbel
          go_wp2_with fail
          go_roundw
          case rel => exact ⟨j + 1, by omega, by go_num, HBW.out⟩
          case measure => simp [intOf]; omega
        · obtain rfl : j = n := by omega
          clear hbel
          obtain ⟨wA, hwA⟩ : ∃ wA, wr = wA := ⟨_, rfl⟩
          rw [hwA] at HBW
          rw [hwA]
          clear hwA
          have HF3 := Lib.hid (HF2.out.below HBW.out)
          have HB3 := Lib.hid (keeps HB2.out HBW.out)
          have hpl := HF3.out.place
          have s1 := fun w : World => slice_hi (w := w) (g := g) (n := j) (cap := cap) (q := q) (by omega) (by omega)
          obtain ⟨of, hof, s2⟩ := slice_from (w := wA) (g := g) (n := j) (cap := cap) (q := q) (by omega) hcap
          have HOF := Lib.hid hof
          have e1 : IntKind.i64.wrap ((q : Int) + 1) = (q : Int) + 1 := IntWalk.i64_in _ (by omega)
          clear hof
          go_wp2_with (first
            | ((with_reducible refine pick (some 51) ?_); refine wpList_append_fnds rfl (.tmp 47) (.tmp 50) rfl wA.heap.size wA.heap.size 0 0 [] rfl (Fo.new_ wA (Nat.le_refl _)) g 0 q cap _ rfl ((HF3.out.fs.below ((Below.refl _ _).alloc (Nat.le_refl _) _)).take q (by omega)) q (by omega) _ rfl (by omega) (by simp) ?_; intro g2 cap2 w3 hown2 hg2 _; have hb2 : Below wA.heap.size wA w3 := ((Below.refl _ _).alloc (Nat.le_refl _) _).grown hg2 (by simp) (by intro k hk; injection hk with hk; omega); have hz2 := hb2.size; have hp2 := hown2.place)
            | ((with_reducible refine pick (some 57) ?_); refine wpList_append_fnds rfl (.tmp 52) (.tmp 56) rfl wA.heap.size g2 q cap2 _ rfl hown2 g of (j - (q + 1)) (cap - (q + 1)) _ rfl (HOF.out _ _ (HF3.out.fs.below hb2)) m (by omega) _ rfl (by omega) (by omega) ?_; intro g3 cap3 w4 hown3 hg3 _; have hb3 : Below wA.heap.size wA w4 := hb2.grown hg3 (by omega) (by intro k hk; injection hk with hk; omega)))
          simp only [List.nil_append] at hown3
          rw [HLI.out] at hown3
          obtain ⟨G, hG⟩ : ∃ G, lf seq j ps q = G := ⟨_, rfl⟩
          obtain ⟨T, hT⟩ : ∃ T : Nat → Bool, (fun i => decide (i < ns) && S i) = T := ⟨_, rfl⟩
          have HCL : Hid (∀ i, i < m → (((List.range m).map (mk T G m)).map (cnt ((List.range m).map (mk T G m)))).getD i false = T i) := Lib.hid (fun i hi => by rw [← hG]; exact mk_settled seq j m ps q T hm i hi)
          have HSM : Hid (∀ x ∈ (List.range m).map (mk T G m), RingY.wfs x.item.seq) := Lib.hid (fun x hx => by rw [← hG] at hx; rw [mk_seq seq j m ps q T x hx]; exact ⟨hs0, hs1⟩)
          rw [hG] at hown3
          have HO4 : Hid (Ow w4 wA.heap.size g3 m 11 (fun i => (mk T G 0 i).cells)) := Lib.hid (Ow.congr (ow_of hown3) (fun i hi => by unfold mk; rw [if_neg (by omega)]))
          have HB4 := Lib.hid (keeps HB3.out hb3)
          have HBA4 := Lib.hid hb3
          have HTT := Lib.hid hT
          have hcap3 := hown3.capLe
          clear hown2 hown3 hg2 hg3 hb2 hb3 hG hT HLI
          go_loopw [60] (fun i wr => ∃ l : Nat, l ≤ m ∧ i = .int .i64 l ∧ Ow wr wA.heap.size g3 m 11 (fun i => (mk T G l i).cells) ∧ Below wA.heap.size wA wr) (fun i _ => m - (intOf i).toNat)
          case atStart => exact ⟨0, Nat.zero_le _, rfl, HO4.out, HBA4.out⟩
          case round =>
            obtain ⟨l, hl, rfl, how, hbel⟩ := hrel
            have HOW := Lib.hid how
            have HBQ := Lib.hid hbel
            by_cases hlt : l < m
            · have c1 := how.cells l hlt 2 (.bool (mk T G l l).settled) rfl
              have f1 : wr.frozen? ⟨g3, l * 11 + 2, none⟩ = false := by have := (how.there (l * 11 + 2) (by omega)).2; rwa [Nat.zero_add] at this
              have HST := Lib.hid (ow_settle how hlt)
              generalize (mk T G l l).settled = old at c1
              have hli : (l : Int) < (m : Int) := by omega
              have hll := how.lo
              clear how hbel
              by_cases hns2 : l < ns
              · obtain ⟨bS, oS, rfl, _, cS⟩ := (HS.out.below (keeps HB3.out HBQ.out)) l hns2
                have e5 : S l = T l := by rw [← HTT.out]; simp [hns2]
                rw [e5] at cS
                have d5 : decide ((l : Int) < (ns : Int)) = true := by simp; omega
                clear e5
                go_wp2_with fail
                go_roundw
                case rel => exact ⟨l + 1, by omega, by go_num, HST.out, HBQ.out.grown (RingZ.grown_set _ _ _ _) HBQ.out.size (by intro k hk; injection hk with hk; omega)⟩
                case measure => simp [intOf]; omega
              · have e5 : T l = false := by rw [← HTT.out]; simp [hns2]
                have hst2 := HST.out
                rw [e5] at hst2
                have HST2 := Lib.hid hst2
                have d5 : decide ((l : Int) < (ns : Int)) = false := by simp; omega
                clear e5 hst2
                go_wp2_with fail
                go_roundw
                case rel => exact ⟨l + 1, by omega, by go_num, HST2.out, HBQ.out.grown (RingZ.grown_set _ _ _ _) HBQ.out.size (by intro k hk; injection hk with hk; omega)⟩
                case measure => simp [intOf]; omega
            · obtain rfl : l = m := by omega
              obtain ⟨wB, hwB⟩ : ∃ wB, wr = wB := ⟨_, rfl⟩
              rw [hwB] at HOW HBQ
              rw [hwB]
              have HB5 := Lib.hid (keeps HB3.out HBQ.out)
              clear hwB how hbel
              go_wp2_with fail
              refine (HC.out _ l cap3 _ _ (fs_of HOW.out) (by omega) HSM.out).mono ?_
              rintro e w5 ⟨A5, c5, rfl, hbl5, hb5⟩
              have HL5 := Lib.hid hbl5
              have HO5 := Lib.hid (HOW.out.below hb5)
              have HB6 := Lib.hid (keeps HB5.out hb5)
              clear hbl5 hb5
              go_wp2_with fail
              go_loopw [81] (fun i wr => ∃ p : Nat, p ≤ l ∧ i = .int .i64 p ∧ Below w5.heap.size w5 wr) (fun i _ => l - (intOf i).toNat)
              case atStart => exact ⟨0, Nat.zero_le _, rfl, Below.refl _ _⟩
              case round =>
                obtain ⟨p, hp, rfl, hbel⟩ := hrel
                have HBZ := Lib.hid hbel
                by_cases hlp : p < l
                · obtain ⟨bA, oA, rfl, _, ca⟩ := (HL5.out.below hbel) p hlp
                  dsimp only at ca
                  rw [HCL.out p hlp] at ca
                  have c1 := (HO5.out.below hbel).cells p hlp 2 (.bool (T p)) (by unfold mk; rw [if_pos hlp]; rfl)
                  generalize T p = bv at ca c1
                  have eb : (bv != bv) = false := by simp
                  have hji : (p : Int) < (l : Int) := by omega
                  clear hbel
                  go_wp2_with fail
                  go_roundw
                  case rel => exact ⟨p + 1, by omega, by go_num, HBZ.out⟩
                  case measure => simp [intOf]; omega
                · obtain rfl : p = l := by omega
                  have HB7 := Lib.hid (keeps HB6.out HBZ.out)
                  clear hbel
                  go_wp2_with fail
                  refine (X.out _).mono ?_
                  rintro e w6 ⟨rfl, hb6⟩
                  have HB8 := Lib.hid (keeps HB7.out hb6)
                  clear hb6
                  go_wp2_with fail
                  go_ret
                  exact ⟨rfl, HB8.out⟩
end Go.Proofs.Ythmcakaboebagaa.RingWe
