/- The walks of layer 16's laws, over what the project's functions are asked. -/
import Derived.Test.YtieegdbjmjpopaaDoorNamesS
import Derived.Lib.MinMax
namespace Go.Proofs.YtieegdbjmjpopaaDoor.NamesL
set_option linter.unusedVariables false
set_option linter.unusedSimpArgs false
open Go.RowKit
open Go.Proofs.YtieegdbjmjpopaaDoor.Byte Go.Proofs.YtieegdbjmjpopaaDoor.KeysM Go.Proofs.YtieegdbjmjpopaaDoor.NamesM Go.Proofs.YtieegdbjmjpopaaDoor.Lst Go.Proofs.YtieegdbjmjpopaaDoor.Tx Go.Proofs.YtieegdbjmjpopaaDoor.NamesR Go.Proofs.YtieegdbjmjpopaaDoor.NamesS
open Go.Proofs.YtieegdbjmjpopaaDoor.Own (keeps)

/-- The library's own variable holds some number. -/
def Mx (w : World) : Prop := ∃ m, w.cell? ⟨0, 0, none⟩ = some (.int .i64 m)
theorem Mx.below {w w' : World} (h : Mx w) (hb : Below w.heap.size w w') : Mx w' := by
  obtain ⟨m, hm⟩ := h
  have hlt : 0 < w.heap.size := Classical.byContradiction fun hn => by
    have h0 : w.heap[0]? = none := Array.getElem?_eq_none (by omega)
    simp [World.cell?, h0] at hm
  exact ⟨m, (hb.cell (p := ⟨0, 0, none⟩) hlt).trans hm⟩
def SplitOk : Prop := ∀ (s : ByteArray) (w : World), s.size ≤ 100000 → Mx w → Calls Tryd.prog 7 #[.string s] w (SplE s w)
def JoinOk : Prop := ∀ (A : Option Addr) (n c : Nat) (L : List ByteArray) (w : World), Sl txE w A n L → n ≤ c → n ≤ 100000 → (∀ x ∈ L, x.size ≤ 100000) → Calls Tryd.prog 10 #[.slice A n c] w (JoiE L w)
def UnderOk : Prop := ∀ (A B : Option Addr) (n c m c2 : Nat) (L M : List ByteArray) (w : World), Sl txE w A n L → Sl txE w B m M → n ≤ c → m ≤ c2 → n ≤ 100000 → m ≤ 100000 → Calls Tryd.prog 12 #[.slice A n c, .slice B m c2] w fun e w' => e = .returned (.bool (under L M)) ∧ Below w.heap.size w w'
theorem room_of {T : TypeId} {w : World} {base n c : Nat} {A : Option Addr} {L : List ByteArray} (h : So txE T w base (.slice A n c) n L) : n ≤ c := by
  obtain ⟨A', c', e, h1, _⟩ := So.head h
  injection e with e1 e2 e3
  omega
/-- The law's fixed, as the walks take it. -/
def FixOk : Prop := ∀ w : World, Mx w → Calls Tryd.prog 6 #[] w fun e w' => e = .returned (.bool true) ∧ Below w.heap.size w w'
theorem ex_spl : spl ⟨#[47, 97, 47, 98, 99]⟩ = ([⟨#[97]⟩, ⟨#[98, 99]⟩], 0) := by decide +kernel
theorem below_lit {w : World} (cs : Array Value) (T : TypeId) : Below w.heap.size w (w.alloc (.cells cs T)) := (Below.refl _ _).alloc (Nat.le_refl _) _
set_option maxRecDepth 100000 in
set_option maxHeartbeats 1000000 in
theorem fixed_calls (hS : SplitOk) : FixOk := by
  intro w hx
  have HS := Lib.hid (hS ⟨#[47, 97, 47, 98, 99]⟩ w (by decide) hx)
  unfold SplE at HS
  rw [ex_spl] at HS
  clear hS hx
  go_enter Tryd.func6, Tryd.ntmps6
  go_wp2_with fail
  refine HS.out.mono ?_
  rintro e w1 ⟨A, m, c, rfl, hso, hb1⟩
  obtain rfl : 2 = m := hso.1
  have HSO := Lib.hid hso
  have HB1 := Lib.hid hb1
  clear hso hb1
  go_wp2_with fail
  have hl : So txE 9 (w1.alloc (.cells #[.string ⟨#[97]⟩, .string ⟨#[98, 99]⟩] 9)) w1.heap.size (.slice (some ⟨w1.heap.size, 0, none⟩) 2 2) 2 [⟨#[97]⟩, ⟨#[98, 99]⟩] := So.lit txE _ w1 _ _ 2 rfl rfl (Nat.le_refl _) (by decide)
  refine (same_calls A (some ⟨w1.heap.size, 0, none⟩) 2 c 2 _ _ (HSO.out.sl.below (below_lit _ _)) hl.sl (by omega)).mono ?_
  rintro e w2 ⟨rfl, hb2⟩
  have HB2 := Lib.hid (keeps (keeps HB1.out (below_lit _ _)) hb2)
  clear hb2 hl
  go_wp2_with fail
  go_ret
  exact ⟨rfl, HB2.out⟩
theorem spl_small (s : ByteArray) : (spl s).1.length ≤ 16 ∧ ∀ x ∈ (spl s).1, x.size ≤ 32 := by
  unfold spl
  split
  · exact ⟨by decide, fun x hx => by cases hx⟩
  · split
    · exact ⟨by decide, fun x hx => by cases hx⟩
    · split
      · exact ⟨by decide, fun x hx => by cases hx⟩
      · split
        · rename_i h
          rw [Bool.and_eq_true, decide_eq_true_eq] at h
          exact ⟨h.2, fun x hx => (name_pos (List.all_eq_true.1 h.1 x hx)).2⟩
        · exact ⟨by decide, fun x hx => by cases hx⟩
set_option maxRecDepth 100000 in
set_option maxHeartbeats 2000000 in
theorem split_law (hS : SplitOk) (hJ : JoinOk) (hF : FixOk) (s : ByteArray) (w : World) (hn : s.size ≤ maxLen) (hmx : Mx w) :
    Calls Tryd.prog 3 #[.string s] w fun e w' => e = .returned (.bool true) ∧ Below w.heap.size w w' := by
  have HF := Lib.hid hF
  have HX := Lib.hid hmx
  clear hmx
  unfold maxLen at hn
  by_cases hbig : 3000 < s.size
  · have d : decide ((3000 : Int) < (s.size : Int)) = true := by rw [decide_eq_true_eq]; omega
    have d' : decide (3000 < s.size) = true := by rw [decide_eq_true_eq]; omega
    clear hS hJ hF
    go_enter Tryd.func3, Tryd.ntmps3
    go_wp2_with fail
    refine (HF.out _ HX.out).mono ?_
    rintro e w1 ⟨rfl, hb1⟩
    have HB1 := Lib.hid hb1
    clear hb1
    go_wp2_with fail
    go_ret
    exact ⟨rfl, HB1.out⟩
  · have d : decide ((3000 : Int) < (s.size : Int)) = false := by rw [decide_eq_false_iff_not]; omega
    have d' : decide (3000 < s.size) = false := by rw [decide_eq_false_iff_not]; omega
    have HS := Lib.hid (fun w (hw : Mx w) => hS s w (by omega) hw)
    have HR := Lib.hid (fun w => refspl_calls s w (by unfold maxLen; omega))
    have HM := Lib.hid (spl_small s)
    have HJ := Lib.hid hJ
    unfold SplE at HS HR
    obtain ⟨L, x, hLx⟩ : ∃ L x, spl s = (L, x) := ⟨_, _, rfl⟩
    rw [hLx] at HS HR HM
    have HLX := Lib.hid hLx
    clear hS hJ hF hLx
    have hs : (s.size : Int) ≤ 9223372036854775807 := by omega
    by_cases hx : x = 0
    · subst hx
      have HJJ := Lib.hid (joi_spl HLX.out)
      go_enter Tryd.func3, Tryd.ntmps3
      go_wp2_with fail
      refine (HS.out _ HX.out).mono ?_
      rintro e w1 ⟨A, m, c, rfl, hso, hb1⟩
      have HB1 := Lib.hid hb1
      have HSO := Lib.hid hso
      have HRM := Lib.hid (room_of hso)
      clear hso hb1
      go_wp2_with fail
      refine (HR.out _).mono ?_
      rintro e w2 ⟨A2, m2, c2, rfl, hso2, hb2⟩
      obtain rfl : m = m2 := HSO.out.1.symm.trans hso2.1
      have HB2 := Lib.hid (keeps HB1.out hb2)
      have HS1 := Lib.hid (HSO.out.sl.below hb2)
      have HS2 := Lib.hid hso2.sl
      have HM2 : Hid (m ≤ 16) := Lib.hid (by have q1 : L.length ≤ 16 := HM.out.1; have q2 := hso2.1; omega)
      clear hso2 hb2
      go_wp2_with fail
      refine (HF.out _ (HX.out.below HB2.out)).mono ?_
      rintro e w3 ⟨rfl, hb3⟩
      have HB3 := Lib.hid (keeps HB2.out hb3)
      have HS3 := Lib.hid (HS1.out.below hb3)
      have HS4 := Lib.hid (HS2.out.below hb3)
      clear hb3
      go_wp2_with fail
      refine (same_calls A A2 m c c2 L w3 HS3.out HS4.out (by have := HM2.out; omega)).mono ?_
      rintro e w4 ⟨rfl, hb4⟩
      have HB4 := Lib.hid (keeps HB3.out hb4)
      have HS5 := Lib.hid (HS3.out.below hb4)
      clear hb4
      go_wp2_with fail
      refine (HJ.out A m c L w4 HS5.out HRM.out (by have := HM2.out; omega) (fun x hx => by have := HM.out.2 x hx; omega)).mono ?_
      rintro e w5 ⟨rfl, hb5⟩
      rw [HJJ.out]
      have HB5 := Lib.hid (keeps HB4.out hb5)
      clear hb5
      go_wp2_with fail
      go_ret
      exact ⟨rfl, HB5.out⟩
    · have dx : (x == 0) = false := by rw [beq_eq_false_iff_ne]; exact hx
      have dx' : (x != 0) = true := by rw [bne_iff_ne]; exact hx
      clear hx
      go_enter Tryd.func3, Tryd.ntmps3
      go_wp2_with fail
      refine (HS.out _ HX.out).mono ?_
      rintro e w1 ⟨A, m, c, rfl, hso, hb1⟩
      have HB1 := Lib.hid hb1
      have HSO := Lib.hid hso
      clear hso hb1
      go_wp2_with fail
      refine (HR.out _).mono ?_
      rintro e w2 ⟨A2, m2, c2, rfl, hso2, hb2⟩
      obtain rfl : m = m2 := HSO.out.1.symm.trans hso2.1
      have HB2 := Lib.hid (keeps HB1.out hb2)
      have HS1 := Lib.hid (HSO.out.sl.below hb2)
      have HS2 := Lib.hid hso2.sl
      have HM2 : Hid (m ≤ 16) := Lib.hid (by have q1 : L.length ≤ 16 := HM.out.1; have q2 := hso2.1; omega)
      clear hso2 hb2
      go_wp2_with fail
      refine (HF.out _ (HX.out.below HB2.out)).mono ?_
      rintro e w3 ⟨rfl, hb3⟩
      have HB3 := Lib.hid (keeps HB2.out hb3)
      have HS3 := Lib.hid (HS1.out.below hb3)
      have HS4 := Lib.hid (HS2.out.below hb3)
      clear hb3
      go_wp2_with fail
      refine (same_calls A A2 m c c2 L w3 HS3.out HS4.out (by have := HM2.out; omega)).mono ?_
      rintro e w4 ⟨rfl, hb4⟩
      have HB4 := Lib.hid (keeps HB3.out hb4)
      clear hb4
      go_wp2_with fail
      go_ret
      exact ⟨rfl, HB4.out⟩
/-- What the law counts of its texts. -/
def tot (L : List ByteArray) : Nat := L.foldr (fun s n => min s.size 9000 + 1 + n) 0
theorem tot_snoc (L : List ByteArray) (x : ByteArray) : tot (L ++ [x]) = tot L + (min x.size 9000 + 1) := by
  induction L with
  | nil => simp [tot]
  | cons a r ih =>
    show min a.size 9000 + 1 + tot (r ++ [x]) = min a.size 9000 + 1 + tot r + _
    rw [ih]
    omega
theorem tot_le (L : List ByteArray) : tot L ≤ 9001 * L.length := by
  induction L with
  | nil => exact Nat.le_refl _
  | cons a r ih =>
    show min a.size 9000 + 1 + tot r ≤ _
    rw [List.length_cons]
    omega
theorem tot_small {L : List ByteArray} (h : tot L ≤ 5000) : L.length ≤ 5000 ∧ ∀ x ∈ L, x.size ≤ 5000 := by
  induction L with
  | nil => exact ⟨by decide, fun x hx => by cases hx⟩
  | cons a r ih =>
    have e : tot (a :: r) = min a.size 9000 + 1 + tot r := rfl
    have h1 : tot r ≤ 5000 := by omega
    have h3 : ∀ r : List ByteArray, r.length ≤ tot r := fun r => by
      induction r with
      | nil => exact Nat.le_refl _
      | cons b r ih =>
        show r.length + 1 ≤ min b.size 9000 + 1 + tot r
        omega
    have h4 := h3 r
    refine ⟨by rw [List.length_cons]; omega, fun x hx => ?_⟩
    rcases List.mem_cons.1 hx with rfl | hx
    · omega
    · exact (ih h1).2 x hx
theorem joi_small (L : List ByteArray) : (joi L).1.size ≤ 255 := by
  unfold joi
  split
  · decide
  · split
    · decide
    · split
      · decide
      · split
        · decide
        · rename_i h
          show (str _).size ≤ 255
          rw [str_size]
          omega
set_option maxRecDepth 100000 in
set_option maxHeartbeats 4000000 in
theorem join_law (hS : SplitOk) (hJ : JoinOk) (hF : FixOk) (A : Option Addr) (n c : Nat) (L : List ByteArray) (w : World) (hl : Sl txE w A n L) (hnc : n ≤ c) (hn : n * 16 ≤ 140737488351232) (hs : ∀ x ∈ L, x.size ≤ 140737488351232) (hmx : Mx w) :
    Calls Tryd.prog 4 #[.slice A n c] w fun e w' => e = .returned (.bool true) ∧ Below w.heap.size w w' := by
  have HF := Lib.hid hF
  have HX := Lib.hid hmx
  clear hmx
  have HJ := Lib.hid hJ
  have HS := Lib.hid hS
  have HL := Lib.hid hl
  have HZ := Lib.hid hs
  have HNC := Lib.hid hnc
  have hnn : n ≤ 8796093021952 := by omega
  clear hS hJ hF hl hs hn hnc
  go_enter Tryd.func4, Tryd.ntmps4
  go_wp2
  go_loop [3, 14] (fun v i => ∃ (k t : Nat), k ≤ n ∧ i = .int .i64 k ∧ v = .int .i64 t ∧ t ≤ 9001 * k ∧ Hid (t = tot (L.take k))) (fun _ i => n - (intOf i).toNat)
  case atStart => exact ⟨0, 0, Nat.zero_le _, rfl, rfl, by omega, Lib.hid rfl⟩
  case round =>
    obtain ⟨k, t, hk, rfl, rfl, ht, HT⟩ := hrel
    by_cases hlt : k < n
    · obtain ⟨x, g, o, hx, rfl, hg, hcl⟩ := HL.out.get k hlt
      have c1 := tx_cell hcl
      have hxs := HZ.out x (List.mem_of_getElem? hx)
      have HT2 : Hid (t + (min x.size 9000 + 1) = tot (L.take (k + 1))) := Lib.hid (by rw [take_at hx, tot_snoc, HT.out])
      have hm : min x.size 9000 ≤ 9000 := Nat.min_le_right _ _
      have hm2 : (min (x.size : Int) 9000) = ((min x.size 9000 : Nat) : Int) := by omega
      clear hcl hx
      go_wp2
      go_round
      case rel => exact ⟨k + 1, t + (min x.size 9000 + 1), by omega, by go_num, by go_num, by omega, HT2⟩
      case measure => simp [intOf]; omega
    · obtain rfl : k = n := by omega
      have hL : L.take k = L := List.take_of_length_le (by rw [HL.out.1]; exact Nat.le_refl _)
      have HTT : Hid (t = tot L) := Lib.hid (by rw [← hL]; exact HT.out)
      clear hL HT
      by_cases hbig : 5000 < t
      · have d : decide ((5000 : Int) < (t : Int)) = true := by rw [decide_eq_true_eq]; omega
        have d' : decide (5000 < t) = true := by rw [decide_eq_true_eq]; omega
        go_wp2_with fail
        refine (HF.out _ HX.out).mono ?_
        rintro e w1 ⟨rfl, hb1⟩
        have HB1 := Lib.hid hb1
        clear hb1
        go_wp2_with fail
        go_ret
        exact ⟨rfl, HB1.out⟩
      · have d : decide ((5000 : Int) < (t : Int)) = false := by rw [decide_eq_false_iff_not]; omega
        have d' : decide (5000 < t) = false := by rw [decide_eq_false_iff_not]; omega
        have hsm := tot_small (L := L) (by rw [← HTT.out]; omega)
        have hkl := HL.out.1
        have HK5 : Hid (k ≤ 5000) := Lib.hid (by omega)
        have HSM := Lib.hid hsm.2
        have HR := Lib.hid (fun w (hw : Sl txE w A k L) => refjoi_calls A k c L w hw (by have := HK5.out; omega) (fun x hx => by have := HSM.out x hx; omega))
        have HJ2 := Lib.hid (fun w (hw : Sl txE w A k L) => HJ.out A k c L w hw HNC.out (by have := HK5.out; omega) (fun x hx => by have := HSM.out x hx; omega))
        have HSP := Lib.hid (joi_small L)
        unfold JoiE at HR HJ2
        obtain ⟨p, x, hpx⟩ : ∃ p x, joi L = (p, x) := ⟨_, _, rfl⟩
        rw [hpx] at HR HJ2 HSP
        dsimp only at HR HJ2 HSP
        have HPX := Lib.hid hpx
        clear hsm hkl hpx HJ
        by_cases hx : x = 0
        · subst hx
          have HSS := Lib.hid (spl_joi HPX.out)
          go_wp2_with fail
          refine (HJ2.out _ HL.out).mono ?_
          rintro e w1 ⟨rfl, hb1⟩
          have HB1 := Lib.hid hb1
          have HL1 := Lib.hid (HL.out.below hb1)
          clear hb1
          go_wp2_with fail
          refine (HR.out _ HL1.out).mono ?_
          rintro e w2 ⟨rfl, hb2⟩
          have HB2 := Lib.hid (keeps HB1.out hb2)
          have HL2 := Lib.hid (HL1.out.below hb2)
          clear hb2
          go_wp2_with fail
          refine (HF.out _ (HX.out.below HB2.out)).mono ?_
          rintro e w3 ⟨rfl, hb3⟩
          have HB3 := Lib.hid (keeps HB2.out hb3)
          have HL3 := Lib.hid (HL2.out.below hb3)
          clear hb3
          go_wp2_with fail
          refine (HS.out p w3 (by have := HSP.out; omega) (HX.out.below HB3.out)).mono ?_
          rintro e w4 ⟨A2, m2, c2, rfl, hso2, hb4⟩
          rw [HSS.out] at hso2 ⊢
          dsimp only at hso2 ⊢
          obtain rfl : k = m2 := HL3.out.1.symm.trans hso2.1
          have HB4 := Lib.hid (keeps HB3.out hb4)
          have HL4 := Lib.hid (HL3.out.below hb4)
          have HS2 := Lib.hid hso2.sl
          clear hso2 hb4
          go_wp2_with fail
          refine (same_calls A A2 k c c2 L w4 HL4.out HS2.out (by have := HK5.out; omega)).mono ?_
          rintro e w5 ⟨rfl, hb5⟩
          have HB5 := Lib.hid (keeps HB4.out hb5)
          clear hb5
          go_wp2_with fail
          go_ret
          exact ⟨rfl, HB5.out⟩
        · have dx : (x == 0) = false := by rw [beq_eq_false_iff_ne]; exact hx
          have dx' : (x != 0) = true := by rw [bne_iff_ne]; exact hx
          clear hx
          go_wp2_with fail
          refine (HJ2.out _ HL.out).mono ?_
          rintro e w1 ⟨rfl, hb1⟩
          have HB1 := Lib.hid hb1
          have HL1 := Lib.hid (HL.out.below hb1)
          clear hb1
          go_wp2_with fail
          refine (HR.out _ HL1.out).mono ?_
          rintro e w2 ⟨rfl, hb2⟩
          have HB2 := Lib.hid (keeps HB1.out hb2)
          clear hb2
          go_wp2_with fail
          refine (HF.out _ (HX.out.below HB2.out)).mono ?_
          rintro e w3 ⟨rfl, hb3⟩
          have HB3 := Lib.hid (keeps HB2.out hb3)
          clear hb3
          go_wp2_with fail
          go_ret
          exact ⟨rfl, HB3.out⟩
theorem under_no {L M : List ByteArray} (h : ¬ L.length < M.length) : under L M = false := by unfold under; rw [decide_eq_false h]; rfl
theorem under_yes {L M : List ByteArray} (h : L.length < M.length) : under L M = decide (M.take L.length = L) := by unfold under; rw [decide_eq_true h]; rfl
theorem under_step {L M : List ByteArray} {k : Nat} {x y : ByteArray} (hx : L[k]? = some x) (hy : M[k]? = some y) (h : M.take k = L.take k) : (M.take (k + 1) = L.take (k + 1)) ↔ x = y := by
  rw [take_at hx, take_at hy, h]
  simp [eq_comm]
theorem under_short {L M : List ByteArray} {k : Nat} (hk : k ≤ L.length) (h : M.take k ≠ L.take k) : M.take L.length ≠ L := by
  intro e
  apply h
  have := congrArg (List.take k) e
  rw [List.take_take, Nat.min_eq_left hk] at this
  exact this
theorem under_end {L M : List ByteArray} {k : Nat} {b : Bool} (hk : k ≤ L.length) (h : b = (decide (L.length < M.length) && decide (M.take k = L.take k))) (he : b = false ∨ k = L.length) : under L M = b := by
  by_cases hlt : L.length < M.length
  · rw [under_yes hlt]
    rw [decide_eq_true hlt, Bool.true_and] at h
    by_cases hq : M.take k = L.take k
    · rw [decide_eq_true hq] at h
      subst h
      rcases he with he | he
      · cases he
      · subst he
        rw [List.take_of_length_le (Nat.le_refl _)] at hq
        rw [decide_eq_true hq]
    · rw [decide_eq_false hq] at h
      rw [h, decide_eq_false (under_short hk hq)]
  · rw [under_no hlt, h, decide_eq_false hlt]
    rfl
set_option maxRecDepth 100000 in
set_option maxHeartbeats 4000000 in
theorem under_law (hU : UnderOk) (hF : FixOk) (A B : Option Addr) (n c m c2 : Nat) (L M : List ByteArray) (w : World) (hl : Sl txE w A n L) (hm : Sl txE w B m M) (ha : A = none → c = 0) (hb : B = none → c2 = 0) (hnc : n ≤ c) (hmc : m ≤ c2) (hn : n ≤ 8796093021952) (hmm : m ≤ 8796093021952) (hmx : Mx w) :
    Calls Tryd.prog 5 #[.slice A n c, .slice B m c2] w fun e w' => e = .returned (.bool true) ∧ Below w.heap.size w w' := by
  have HF := Lib.hid hF
  have HX := Lib.hid hmx
  clear hmx
  have HU := Lib.hid hU
  have HL := Lib.hid hl
  have HM := Lib.hid hm
  have HA := Lib.hid ha
  have HBN := Lib.hid hb
  have HNC := Lib.hid hnc
  have HMC := Lib.hid hmc
  clear hU hF hl hm ha hb hnc hmc
  by_cases hbig : 200 < n ∨ 200 < m
  · have ways : (decide ((200 : Int) < (n : Int)) = true ∧ decide (200 < n) = true) ∨ ((decide ((200 : Int) < (n : Int)) = false ∧ decide (200 < n) = false) ∧ decide ((200 : Int) < (m : Int)) = true ∧ decide (200 < m) = true) := by
      simp only [decide_eq_true_eq, decide_eq_false_iff_not]
      omega
    clear hbig
    rcases ways with ⟨d, d'⟩ | ⟨⟨d, d'⟩, d2, d2'⟩
    all_goals
      go_enter Tryd.func5, Tryd.ntmps5
      go_wp2_with fail
      refine (HF.out _ HX.out).mono ?_
      rintro e w1 ⟨rfl, hb1⟩
      have HB1 := Lib.hid hb1
      clear hb1
      go_wp2_with fail
      go_ret
      exact ⟨rfl, HB1.out⟩
  · have hn2 : n ≤ 200 := by omega
    have hm2 : m ≤ 200 := by omega
    have d : decide ((200 : Int) < (n : Int)) = false := by rw [decide_eq_false_iff_not]; omega
    have d' : decide (200 < n) = false := by rw [decide_eq_false_iff_not]; omega
    have d2 : decide ((200 : Int) < (m : Int)) = false := by rw [decide_eq_false_iff_not]; omega
    have d2' : decide (200 < m) = false := by rw [decide_eq_false_iff_not]; omega
    obtain ⟨b0, hb0⟩ : ∃ b, decide (n < m) = b := ⟨_, rfl⟩
    have hb0' : decide ((n : Int) < (m : Int)) = b0 := by rw [← hb0]; simp
    have HB0 := Lib.hid hb0
    clear hbig hn hmm
    go_enter Tryd.func5, Tryd.ntmps5
    go_wp2_with (first
      | ((with_reducible refine pick (some 19) ?_); refine wpList_append_any txE 9 rfl _ _ _ rfl Tryd.underlying23 info_tx rfl w.heap.size _ 0 [] rfl (So.new_ txE _ w (Nat.le_refl _)) A n c L rfl (HL.out.below (below_lit _ _)) HA.out n (by omega) L (by simp) (by unfold maxLen; omega) (by omega) (by simp) ?_; intro v1 w1 ho1 hg1 hat1; have HO1 := Lib.hid ho1; have HB1 : Hid (Below w.heap.size w w1) := Lib.hid ((below_lit (w := w) #[] 9).grown hg1 (by simp) (fun k hk => ((So.new_ txE 9 w (Nat.le_refl _)).lt hk).1)); clear ho1 hg1 hat1)
      | ((with_reducible refine pick (some 21) ?_); refine wpList_append_any txE 9 rfl _ _ _ rfl Tryd.underlying23 info_tx rfl w.heap.size v1 n L rfl HO1.out B m c2 M rfl (HM.out.below HB1.out) HBN.out (n + m) rfl (L ++ M) rfl (by unfold maxLen; omega) (by omega) HB1.out.size ?_; intro v2 w2 ho2 hg2 hat2; obtain ⟨A3, c3, rfl, _⟩ := So.head ho2; have HO2 := Lib.hid ho2; have HRO := Lib.hid (room_of ho2); have HB2 : Hid (Below w.heap.size w w2) := Lib.hid (HB1.out.grown hg2 HB1.out.size (fun k hk => (HO1.out.lt hk).1)); clear ho2 hg2 hat2))
    clear hb0 hb0'
    go_loopw [6, 7] (fun v i wr => ∃ (k : Nat) (b : Bool), k ≤ n ∧ i = .int .i64 k ∧ v = .bool b ∧ Hid (b = (decide (L.length < M.length) && decide (M.take k = L.take k))) ∧ Below w2.heap.size w2 wr) (fun _ i _ => n - (intOf i).toNat)
    case atStart => exact ⟨0, b0, Nat.zero_le _, rfl, rfl, Lib.hid (by rw [HL.out.1, HM.out.1, HB0.out]; simp), Below.refl _ _⟩
    case round =>
      obtain ⟨k, b, hk, rfl, rfl, HBE, hbel⟩ := hrel
      by_cases hex : b = true ∧ k < n
      · obtain ⟨hb1, hlt⟩ := hex
        subst hb1
        have hnm : n < m := by
          have := HBE.out.symm
          rw [Bool.and_eq_true, decide_eq_true_eq, HL.out.1, HM.out.1] at this
          exact this.1
        have HTK : Hid (M.take k = L.take k) := Lib.hid (by
          have := HBE.out.symm
          rw [Bool.and_eq_true, decide_eq_true_eq, decide_eq_true_eq] at this
          exact this.2)
        have hwr := keeps HB2.out hbel
        obtain ⟨x, g, o, hx, rfl, hg, hcl⟩ := (HL.out.below hwr).get k hlt
        obtain ⟨y, g2, o2, hy, rfl, hg2, hcl2⟩ := (HM.out.below hwr).get k (by omega)
        have c1 := tx_cell hcl
        have c2 := tx_cell hcl2
        have q1 : (0 : Int) ≤ (k : Int) := by omega
        have q2 : (k : Int) < (n : Int) := by omega
        have q3 : (k : Int) < (m : Int) := by omega
        have HST := Lib.hid (under_step hx hy HTK.out)
        have HNM : Hid (decide (L.length < M.length) = true) := Lib.hid (by rw [HL.out.1, HM.out.1]; exact decide_eq_true hnm)
        have HBL := Lib.hid hbel
        clear hcl hcl2 hx hy hwr hbel hnm
        by_cases hxy : x = y
        · subst hxy
          have HD2 : Hid (decide (M.take (k + 1) = L.take (k + 1)) = true) := Lib.hid (decide_eq_true (HST.out.2 rfl))
          clear HST
          go_wp2_with fail
          go_quiet (fail)
          go_wp2_with fail
          go_roundw
          case rel => exact ⟨k + 1, true, by omega, by go_num, by simp, Lib.hid (by rw [HNM.out, HD2.out]; rfl), below_drewN HBL.out _⟩
          case measure => simp [intOf]; omega
        · have e2 : decide (x = y) = false := decide_eq_false hxy
          have HXY := Lib.hid hxy
          have e3 : (x.toList == y.toList) = false := by
            rw [beq_eq_false_iff_ne]
            intro e
            apply hxy
            rw [ByteArray.toList_eq, ByteArray.toList_eq] at e
            exact ByteArray.ext (Array.ext' e)
          have HD2 : Hid (decide (M.take (k + 1) = L.take (k + 1)) = false) := Lib.hid (decide_eq_false (fun h => HXY.out (HST.out.1 h)))
          clear hxy HST
          go_wp2_with fail
          go_quiet (fail)
          go_wp2_with fail
          go_roundw
          case rel => exact ⟨k + 1, false, by omega, by go_num, by simp [*], Lib.hid (by rw [HD2.out, Bool.and_false]), below_drewN HBL.out _⟩
          case measure => simp [intOf]; omega
      · have HUE : Hid (under L M = b) := Lib.hid (under_end (by rw [HL.out.1]; exact hk) HBE.out (by
          rw [HL.out.1]
          cases b with
          | false => exact .inl rfl
          | true => exact .inr (by
              have : ¬ k < n := fun h => hex ⟨rfl, h⟩
              omega)))
        have hwr := keeps HB2.out hbel
        have HBL := Lib.hid hwr
        have HL2 := Lib.hid (HL.out.below hwr)
        have HM2 := Lib.hid (HM.out.below hwr)
        have HC2 := Lib.hid (HO2.out.sl.below hbel)
        have h2 := under_app L M
        rw [HM.out.1] at h2
        have H2 := Lib.hid h2
        have hv : decide ((0 : Int) < (m : Int)) = decide (0 < m) := by simp
        have way : b = false ∨ (b = true ∧ k = n) := by
          cases b with
          | false => exact .inl rfl
          | true => exact .inr ⟨rfl, by
              have : ¬ k < n := fun h => hex ⟨rfl, h⟩
              omega⟩
        clear hex hwr h2 hbel
        rcases way with rfl | ⟨rfl, rfl⟩
        all_goals
          go_wp2_with fail
          refine (HF.out _ (HX.out.below HBL.out)).mono ?_
          rintro e w3 ⟨rfl, hb3⟩
          have HB3 := Lib.hid (keeps HBL.out hb3)
          have HL3 := Lib.hid (HL2.out.below hb3)
          have HM3 := Lib.hid (HM2.out.below hb3)
          have HC3 := Lib.hid (HC2.out.below hb3)
          clear hb3
          go_wp2_with fail
          refine (HU.out _ _ _ _ _ _ L M w3 HL3.out HM3.out HNC.out HMC.out (by omega) (by omega)).mono ?_
          rw [HUE.out]
          rintro e w4 ⟨rfl, hb4⟩
          have HB4 := Lib.hid (keeps HB3.out hb4)
          have HL4 := Lib.hid (HL3.out.below hb4)
          have HC4 := Lib.hid (HC3.out.below hb4)
          clear hb4
          go_wp2_with fail
          refine (HU.out _ _ _ _ _ _ L (L ++ M) w4 HL4.out HC4.out HNC.out HRO.out (by omega) (by omega)).mono ?_
          rw [H2.out]
          rintro e w5 ⟨rfl, hb5⟩
          have HB5 := Lib.hid (keeps HB4.out hb5)
          have HL5 := Lib.hid (HL4.out.below hb5)
          clear hb5
          go_wp2_with fail
          refine (HU.out _ _ _ _ _ _ L L w5 HL5.out HL5.out HNC.out HNC.out (by omega) (by omega)).mono ?_
          rw [under_self]
          rintro e w6 ⟨rfl, hb6⟩
          have HB6 := Lib.hid (keeps HB5.out hb6)
          clear hb6
          go_wp2_with fail
          go_ret
          exact ⟨rfl, HB6.out⟩
end Go.Proofs.YtieegdbjmjpopaaDoor.NamesL
