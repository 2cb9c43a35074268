/- Layer 5's law file: sector; copy of as many bytes as there is room for; the variable 'example'. -/
import Derived.Test.YthiienhlklommaaDoorHeadR
import Derived.Deep.Cut
import Derived.LoopTactic
namespace Go.Proofs.YthiienhlklommaaDoor.HeadS
set_option linter.unusedVariables false
set_option linter.unusedSimpArgs false
open Go.RowKit
open Go.Proofs.YthiienhlklommaaDoor.Byte Go.Proofs.YthiienhlklommaaDoor.PackM Go.Proofs.YthiienhlklommaaDoor.PackV Go.Proofs.YthiienhlklommaaDoor.MayM Go.Proofs.YthiienhlklommaaDoor.HeadM Go.Proofs.YthiienhlklommaaDoor.HeadR

section
variable {P : Program} {w : World}
/-- copy into an own row, of as many of some bytes as there is room for. -/
theorem wpList_copy_any {ops : Array Oper} {rest : List Oper} {o : Oper} {a : Act} {Q : Exit → Act → World → Prop} (hgd : o.guard = none) (d s : Operand) (dT sT : TypeId)
    (ho : o.op = .call { callee := .builtin .copy, args := #[d, s], argTypes := #[dT, sT] }) (e : TypeId) (hu : P.underlying dT = some (.slice e)) (hsz : (P.info? e).map (·.size) = some 1)
    (base g n cap : Nat) (xs : List Int) (hd : a.eval d = .slice (some ⟨g, 0, none⟩) n cap) (hown : Ob w base e g n cap xs)
    (A : Option Addr) (m c : Nat) (ys : List Int) (hs : a.eval s = .slice A m c) (hr : Bs w A m ys)
    (zs : List Int) (hz : over xs 0 (ys.take (min m n)) = zs)
    (h : ∀ w', Ob w' base e g n cap zs → w.grownBy w' (some g) → wpList P ops Q rest (a.put o.dst (goInt (min m n : Nat))) w') : wpList P ops Q (o :: rest) a w := by
  subst hz
  obtain ⟨cur, hg, hb, hnc, hcm, hcs, ht⟩ := hown.row
  rcases Nat.eq_zero_or_pos (min m n) with h0 | h0
  · refine wpList_copy_nothing hgd d s dT sT ho e hu hsz (some ⟨g, 0, none⟩) A n cap m c hd hs h0 ?_
    have := h w (by rw [h0, List.take_zero]; simpa [over] using hown) (World.grownBy.refl w _)
    rw [h0] at this
    exact this
  · obtain ⟨b, o', rfl, _, _⟩ := hr.2.2 0 (by omega)
    have hq : (ys.take (min m n)).length = min m n := by rw [List.length_take, hr.1]; omega
    have hlen : ((ys.take (min m n)).map (Value.int .u8)).length = min m n := by rw [List.length_map, hq]
    refine wpList_copy_own hgd d s dT sT ho e hu hsz g 0 n cap ⟨b, o', none⟩ m c hd hs cur e hg ((ys.take (min m n)).map (Value.int .u8)) hlen (fun j v hj => ?_) (by rw [hlen]; omega) (fun v hv => by obtain ⟨_, _, rfl⟩ := List.mem_map.1 hv; rfl) ?_
    · have hj' : j < min m n := by
        have := (List.getElem?_eq_some_iff.1 hj).1
        rwa [hlen] at this
      have e2 : (⟨b, o', none⟩ : Addr).add j = ⟨b, o' + j, none⟩ := by
        unfold Addr.add
        by_cases h0 : j = 0 <;> simp [h0]
      rw [e2, hr.at_ j (by omega), ← hj, List.getElem?_map, List.getElem?_take, if_pos hj', List.getElem?_eq_getElem (by rw [hr.1]; omega), List.getD_eq_getElem?_getD, List.getElem?_eq_getElem (by rw [hr.1]; omega)]
      rfl
    · rw [hlen]
      have e3 := hown.setRow cur hg ht hcs 0 (ys.take (min m n)) (by rw [hq]; omega) (fun y hy => hr.2.1 y (List.mem_of_mem_take hy))
      rw [hq] at e3
      exact h _ e3 (grown_setRow w g _)
end
theorem ob_base {w : World} {b0 b1 : Nat} {e : TypeId} {g n cap : Nat} {xs : List Int} (h : Ob w b1 e g n cap xs) (hb : b0 ≤ b1) : Ob w b0 e g n cap xs := by
  refine ⟨h.1, h.2.1, h.2.2.1, ?_⟩
  rcases h.2.2.2 with h' | ⟨g', cap', cur, h1, h2, r⟩
  · exact .inl h'
  · exact .inr ⟨g', cap', cur, h1, Nat.le_trans hb h2, r⟩
theorem over_sec (z : Nat) (xs : List Int) (m : Nat) (hm : xs.length = m) : over (List.replicate z 255) 0 (xs.take (min m z)) = sec z xs := by
  unfold over sec
  rw [List.take_zero, List.nil_append, List.length_take, List.drop_replicate, Nat.zero_add]
  have e1 : xs.take (min m z) = xs.take z := by
    rcases Nat.le_total m z with h | h
    · rw [Nat.min_eq_left h, List.take_of_length_le (by omega), List.take_of_length_le (by omega)]
    · rw [Nat.min_eq_right h]
  have e2 : z - min (min m z) xs.length = z - xs.length := by omega
  rw [e1, e2]
theorem fill_set (k z : Nat) (h : k < z) : (List.replicate k (255 : Int) ++ List.replicate (z - k) 0).set k 255 = List.replicate (k + 1) 255 ++ List.replicate (z - (k + 1)) 0 := by
  have e : z - k = (z - (k + 1)) + 1 := by omega
  rw [e, List.replicate_succ, List.set_append_right _ _ (by simp), List.length_replicate, Nat.sub_self, List.set_cons_zero, List.replicate_succ', List.append_assoc]
  rfl
set_option maxHeartbeats 1000000 in
theorem sector_calls (n : Int) (z : Nat) (A : Option Addr) (m c : Nat) (xs : List Int) (w : World) (hz0 : 0 < z) (hz : z ≤ 4096) (hb : Bs w A m xs) :
    Calls Tryd.prog 12 #[.agg #[.int .i64 n, .int .i64 z], .slice A m c] w fun e w' => ∃ g cap, e = .returned (.slice (some ⟨g, 0, none⟩) z cap) ∧ z ≤ cap ∧ Ob w' w.heap.size 5 g z cap (sec z xs) ∧ Below w.heap.size w w' := by
  have HB := Lib.hid hb
  have HS := Lib.hid (over_sec z xs m hb.len)
  have HX := Lib.hid (GX.of w n z)
  clear hb
  go_enter Tryd.func12, Tryd.ntmps12
  go_upto_region 1 with (fail)
  change Code.wp _ _ _ _ (w.alloc (.cells #[.int .i64 n, .int .i64 (z : Int)] 23))
  generalize w.alloc (.cells #[.int .i64 n, .int .i64 (z : Int)] 23) = W at *
  have b1 := HX.out.c1
  have hW := HX.out.bel.size
  go_wp2_with (at_make; refine wpList_make_bytes rfl _ _ _ rfl W.heap.size 5 Tryd.underlying26 info8 _ _ _ _ z rfl rfl (by omega) (by omega) (by omega) (Nat.le_refl _) ?_; intro w1 hown1 hg1; have HO1 := Lib.hid hown1; have HB1 := Lib.hid ((Below.refl W.heap.size W).grown hg1 (Nat.le_refl _) (by intro k hk; cases hk)); clear hown1 hg1)
  go_loopw [12] (fun i wr => ∃ k : Nat, k ≤ z ∧ i = .int .i64 k ∧ Ob wr W.heap.size 5 W.heap.size z z (List.replicate k 255 ++ List.replicate (z - k) 0) ∧ Below W.heap.size W wr) (fun i _ => z - (intOf i).toNat)
  case atStart => exact ⟨0, Nat.zero_le _, rfl, HO1.out, HB1.out⟩
  case round =>
    obtain ⟨k, hk, rfl, hO, hL⟩ := hrel
    have HO := Lib.hid hO
    have HL := Lib.hid hL
    clear hO hL HO1 HB1
    by_cases hlt : k < z
    · have hc := HO.out.cell k hlt
      have hf := HO.out.frozen k
      go_wp2_with fail
      have hset := HO.out.set_ k 255 (by omega) (by omega)
      rw [fill_set k z hlt] at hset
      go_roundw
      case rel => exact ⟨k + 1, by omega, by go_num, hset, HL.out.setCell (Nat.le_refl _) _⟩
      case measure => simp [intOf]; omega
    · obtain rfl : k = z := by omega
      have HO2 : Hid (Ob wr W.heap.size 5 W.heap.size k k (List.replicate k 255)) := Lib.hid (by
        have := HO.out
        rw [Nat.sub_self, List.replicate_zero, List.append_nil] at this
        exact this)
      have HBr := Lib.hid (HB.out.below (HX.out.bel.trans (HL.out.mono hW)))
      go_wp2_with ((with_reducible refine pick (some 21) ?_); refine wpList_copy_any rfl _ _ _ _ rfl 5 Tryd.underlying26 size8 W.heap.size W.heap.size k k (List.replicate k 255) rfl HO2.out A m c xs rfl HBr.out (sec k xs) HS.out ?_; intro w2 hown2 hg2)
      have hL2 : Below W.heap.size W w2 := HL.out.grown hg2 HL.out.size (by intro q hq; injection hq with hq; omega)
      go_ret
      exact ⟨_, _, rfl, Nat.le_refl _, ob_base hown2 hW, HX.out.bel.trans (hL2.mono hW)⟩
/-- The variable 'example'. -/
def Example (w : World) : Prop := 0 < w.heap.size ∧ w.cell? ⟨0, 0, none⟩ = some (.int .i64 6) ∧ w.cell? ⟨0, 1, none⟩ = some (.int .i64 512)
theorem Example.below {w w' : World} (h : Example w) (hb : Below w.heap.size w w') : Example w' :=
  ⟨Nat.lt_of_lt_of_le h.1 hb.size, (hb.cell (p := ⟨0, 0, none⟩) h.1).trans h.2.1, (hb.cell (p := ⟨0, 1, none⟩) h.1).trans h.2.2⟩
/-- Behind A stand n integers. -/
def Is (w : World) (A : Option Addr) (n : Nat) (xs : List Int) : Prop :=
  xs.length = n ∧ (∀ x ∈ xs, -9223372036854775808 ≤ x ∧ x ≤ 9223372036854775807) ∧ ∀ k, k < n → ∃ b o, A = some ⟨b, o, none⟩ ∧ b < w.heap.size ∧ w.cell? ⟨b, o + k, none⟩ = some (.int .i64 (xs.getD k 0))
theorem Is.at_ {w : World} {b o n : Nat} {xs : List Int} (h : Is w (some ⟨b, o, none⟩) n xs) (k : Nat) (hk : k < n) : w.cell? ⟨b, o + k, none⟩ = some (.int .i64 (xs.getD k 0)) := by
  obtain ⟨b', o', e, _, hc⟩ := h.2.2 k hk
  injection e with e
  injection e with e1 e2
  subst e1 e2
  exact hc
theorem Is.below {w w' : World} {A : Option Addr} {n : Nat} {xs : List Int} (h : Is w A n xs) (hb : Below w.heap.size w w') : Is w' A n xs :=
  ⟨h.1, h.2.1, fun k hk => by
    obtain ⟨b, o, e, hlt, hc⟩ := h.2.2 k hk
    exact ⟨b, o, e, Nat.lt_of_lt_of_le hlt hb.size, (hb.cell (p := ⟨b, o + k, none⟩) hlt).trans hc⟩⟩
end Go.Proofs.YthiienhlklommaaDoor.HeadS
