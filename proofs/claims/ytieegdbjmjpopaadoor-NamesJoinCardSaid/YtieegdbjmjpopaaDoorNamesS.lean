/- The contracts of the document's Join and Same of layer 16. -/
import Derived.Test.YtieegdbjmjpopaaDoorNamesR
import Derived.Laws.Concat
import Derived.WalkLawsBesides
import Derived.WalkSpells
namespace Go.Proofs.YtieegdbjmjpopaaDoor.NamesS
set_option linter.unusedVariables false
set_option linter.unusedSimpArgs false
open Go.RowKit
open Go.Proofs.YtieegdbjmjpopaaDoor.Byte Go.Proofs.YtieegdbjmjpopaaDoor.KeysM Go.Proofs.YtieegdbjmjpopaaDoor.KeysN Go.Proofs.YtieegdbjmjpopaaDoor.NamesM Go.Proofs.YtieegdbjmjpopaaDoor.Lst Go.Proofs.YtieegdbjmjpopaaDoor.Tx Go.Proofs.YtieegdbjmjpopaaDoor.NamesR
open Go.Proofs.YtieegdbjmjpopaaDoor.Own (keeps)

theorem below_drewN {B : Nat} {a w : World} (h : Below B a w) (n : Nat) : Below B a (w.drewN n) := ⟨h.os, h.tape, h.output, h.size, h.block⟩
set_option maxRecDepth 100000 in
set_option maxHeartbeats 2000000 in
/-- The same names are the same. -/
theorem same_calls (A B : Option Addr) (n c c2 : Nat) (L : List ByteArray) (w : World) (ha : Sl txE w A n L) (hb : Sl txE w B n L) (hn : n ≤ 100000) :
    Calls Tryd.prog 9 #[.slice A n c, .slice B n c2] w fun e w' => e = .returned (.bool true) ∧ Below w.heap.size w w' := by
  have HA := Lib.hid ha
  have HB := Lib.hid hb
  clear ha hb
  go_enter Tryd.func9, Tryd.ntmps9
  go_wp2
  go_loopw [13] (fun i wr => ∃ k : Nat, k ≤ n ∧ i = .int .i64 k ∧ Below w.heap.size w wr) (fun i _ => n - (intOf i).toNat)
  case atStart => exact ⟨0, Nat.zero_le _, rfl, Below.refl _ _⟩
  case round =>
    obtain ⟨k, hk, rfl, hbel⟩ := hrel
    by_cases hlt : k < n
    · obtain ⟨x, g, o, hx, rfl, hg, hcl⟩ := (HA.out.below hbel).get k hlt
      obtain ⟨y, g2, o2, hy, rfl, hg2, hcl2⟩ := (HB.out.below hbel).get k hlt
      rw [hx] at hy
      injection hy with hy
      subst hy
      have c1 := tx_cell hcl
      have c2 := tx_cell hcl2
      have q1 : (0 : Int) ≤ (k : Int) := by omega
      have q2 : (k : Int) < (n : Int) := by omega
      have HBL := Lib.hid hbel
      clear hcl hcl2 hx hbel
      go_wp2_with fail
      go_quiet (fail)
      go_wp2_with fail
      go_roundw
      case rel => exact ⟨k + 1, by omega, by go_num, below_drewN HBL.out _⟩
      case measure => simp [intOf]; omega
    · obtain rfl : k = n := by omega
      go_wp2_with fail
      go_ret
      exact ⟨rfl, hbel⟩
/-- The path of names, and the error's number. -/
def JoiE (l : List ByteArray) (w : World) (e : Ending) (w' : World) : Prop := e = .returned (.tuple #[.string (joi l).1, .int .i64 (joi l).2]) ∧ Below w.heap.size w w'
theorem JoiE.of {l : List ByteArray} {w w' : World} {s : ByteArray} {x : Int} (h : joi l = (s, x)) (hb : Below w.heap.size w w') : JoiE l w (.returned (.tuple #[.string s, .int .i64 x])) w' := by
  refine ⟨?_, hb⟩
  rw [h]
theorem take_at {α : Type} {L : List α} {k : Nat} {x : α} (h : L[k]? = some x) : L.take (k + 1) = L.take k ++ [x] := by
  obtain ⟨hk, he⟩ := List.getElem?_eq_some_iff.1 h
  rw [List.take_succ_eq_append_getElem hk, he]
theorem str_snoc (l : List ByteArray) (x : ByteArray) : str (slashed l) ++ ⟨#[47]⟩ ++ x = str (slashed (l ++ [x])) := by
  rw [slashed_snoc]
  have e1 : (⟨#[47]⟩ : ByteArray) = str [47] := rfl
  have e2 : x = str (txt x) := (str_txt x).symm
  rw [e1]
  conv => lhs; rw [e2]
  rw [str_append, str_append]
  simp
theorem slashed_len (l : List ByteArray) (h : l.all nameOk = true) : (slashed l).length ≤ 33 * l.length := by
  induction l with
  | nil => exact Nat.le_refl _
  | cons a r ih =>
    rw [List.all_cons, Bool.and_eq_true] at h
    have := ih h.2
    have hp := name_pos h.1
    have e : slashed (a :: r) = 47 :: (txt a ++ slashed r) := rfl
    rw [e, List.length_cons, List.length_append, txt_len, List.length_cons]
    omega
set_option maxRecDepth 100000 in
set_option maxHeartbeats 4000000 in
theorem refjoi_calls (A : Option Addr) (n c : Nat) (L : List ByteArray) (w : World) (ha : Sl txE w A n L) (hn : n ≤ 100000) (hs : ∀ x ∈ L, x.size ≤ 100000) :
    Calls Tryd.prog 11 #[.slice A n c] w (JoiE L w) := by
  have HA := Lib.hid ha
  have HS := Lib.hid hs
  have hl := ha.1
  by_cases h16 : 16 < n
  · have HK := Lib.hid (joi_long (l := L) (by omega))
    have d : decide ((16 : Int) < (n : Int)) = true := by rw [decide_eq_true_eq]; omega
    have d' : decide (16 < n) = true := by rw [decide_eq_true_eq]; omega
    clear ha hs hl h16
    go_enter Tryd.func11, Tryd.ntmps11
    go_wp2_with fail
    go_ret2
    exact JoiE.of HK.out (Below.refl _ _)
  · have d : decide ((16 : Int) < (n : Int)) = false := by rw [decide_eq_false_iff_not]; omega
    have d' : decide (16 < n) = false := by rw [decide_eq_false_iff_not]; omega
    have HL := Lib.hid hl
    clear ha hs hl
    go_enter Tryd.func11, Tryd.ntmps11
    go_wp2
    go_loop [4, 11] (fun v i => ∃ (k : Nat) (q : ByteArray), k ≤ n ∧ i = .int .i64 k ∧ v = .string q ∧ q.size ≤ 33 * k ∧ Hid (q = str (slashed (L.take k))) ∧ Hid ((L.take k).all nameOk = true)) (fun _ i => n - (intOf i).toNat)
    case atStart => exact ⟨0, _, Nat.zero_le _, rfl, rfl, by decide, Lib.hid rfl, Lib.hid rfl⟩
    case round =>
      obtain ⟨k, q, hk, rfl, rfl, hq, HQ, HN⟩ := hrel
      by_cases hlt : k < n
      · obtain ⟨x, g, o, hx, rfl, hg, hcl⟩ := HA.out.get k hlt
        have c1 := tx_cell hcl
        have hxs := HS.out x (List.mem_of_getElem? hx)
        have HX := Lib.hid hx
        clear hcl hx
        cases hb : nameOk x with
        | true =>
          have HNM := Lib.hid (fun w => name_is x true hb hxs w)
          have hp := name_pos hb
          have HQ2 : Hid (q ++ ⟨#[47]⟩ ++ x = str (slashed (L.take (k + 1)))) := Lib.hid (by rw [HQ.out, take_at HX.out, str_snoc])
          have HN2 : Hid ((L.take (k + 1)).all nameOk = true) := Lib.hid (by rw [take_at HX.out]; exact all_snoc HN.out hb)
          have hz1 : (q ++ ⟨#[47]⟩ : ByteArray).size = q.size + 1 := by rw [ByteArray.size_append]; rfl
          have hz2 : (q ++ ⟨#[47]⟩ ++ x : ByteArray).size = q.size + 1 + x.size := by rw [ByteArray.size_append, hz1]
          have HZ2 := Lib.hid hz2
          have s1 : ¬ 9223372036854775807 < q.size + 1 := by omega
          have s2 : ¬ 9223372036854775807 < q.size + 1 + x.size := by omega
          have s3 : (q.size : Int) ≤ 8388608 := by omega
          have s4 : (x.size : Int) ≤ 8388608 := by omega
          clear hb hz2
          go_wp2_with (go_at_call 17; refine (HNM.out _).mono ?_; rintro e w' ⟨rfl, rfl⟩)
          go_round
          case rel => exact ⟨k + 1, q ++ ⟨#[47]⟩ ++ x, by omega, by go_num, rfl, by rw [HZ2.out]; omega, HQ2, HN2⟩
          case measure => simp [intOf]; omega
        | false =>
          have HNM := Lib.hid (fun w => name_is x false hb hxs w)
          have HK := Lib.hid (joi_bad (List.mem_of_getElem? HX.out) hb)
          clear hb
          go_wp2_with (go_at_call 17; refine (HNM.out _).mono ?_; rintro e w' ⟨rfl, rfl⟩)
          go_ret2
          exact JoiE.of HK.out (Below.refl _ _)
      · obtain rfl : k = n := by omega
        have hL : L.take k = L := List.take_of_length_le (by rw [HL.out]; exact Nat.le_refl _)
        have hQ := HQ.out
        have hN := HN.out
        rw [hL] at hQ hN
        rcases Nat.eq_zero_or_pos k with h0 | h0
        · subst h0
          have hnil : L = [] := List.eq_nil_of_length_eq_zero HL.out
          have HK : Hid (joi L = (str [47], 0)) := Lib.hid (by rw [hnil]; rfl)
          clear hL hQ hN hnil
          go_wp2_with fail
          go_ret2
          exact JoiE.of HK.out (Below.refl _ _)
        · have hne : L ≠ [] := by
            intro e
            have := HL.out
            rw [e] at this
            simp at this
            omega
          have hlen := HL.out
          have hz : q.size = (slashed L).length := by rw [hQ, str_size]
          have hj := joi_all (by omega) hne hN
          have n0 : ((k : Int) == 0) = false := by rw [beq_eq_false_iff_ne]; omega
          have n0' : (k == 0) = false := by rw [beq_eq_false_iff_ne]; omega
          by_cases h255 : 255 < (slashed L).length
          · rw [if_pos h255] at hj
            have HK := Lib.hid hj
            have t1 : decide ((255 : Int) < (q.size : Int)) = true := by rw [decide_eq_true_eq]; omega
            have t1' : decide (255 < q.size) = true := by rw [decide_eq_true_eq]; omega
            clear hL hQ hN hne hlen hz hj h255
            go_wp2_with fail
            go_ret2
            exact JoiE.of HK.out (Below.refl _ _)
          · rw [if_neg h255, ← hQ] at hj
            have HK := Lib.hid hj
            have t1 : decide ((255 : Int) < (q.size : Int)) = false := by rw [decide_eq_false_iff_not]; omega
            have t1' : decide (255 < q.size) = false := by rw [decide_eq_false_iff_not]; omega
            clear hL hQ hN hne hlen hz hj h255
            go_wp2_with fail
            go_ret2
            exact JoiE.of HK.out (Below.refl _ _)
end Go.Proofs.YtieegdbjmjpopaaDoor.NamesS
