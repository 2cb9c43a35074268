/- Layer 10: the law's same: a tree has just a row's pairs. -/
import Derived.Test.YtmbgbdhanobphaaTreeT
namespace Go.Proofs.Ytmbgbdhanobphaa.TreeN
set_option linter.unusedVariables false
set_option linter.unusedSimpArgs false
open Go.RowKit
open Go.Proofs.Ytmbgbdhanobphaa.Byte Go.Proofs.Ytmbgbdhanobphaa.KeysM Go.Proofs.Ytmbgbdhanobphaa.TreeM Go.Proofs.Ytmbgbdhanobphaa.Own Go.Proofs.Ytmbgbdhanobphaa.Rw Go.Proofs.Ytmbgbdhanobphaa.Lst Go.Proofs.Ytmbgbdhanobphaa.TreeR Go.Proofs.Ytmbgbdhanobphaa.TreeS Go.Proofs.Ytmbgbdhanobphaa.TreeC Go.Proofs.Ytmbgbdhanobphaa.TreeL Go.Proofs.Ytmbgbdhanobphaa.TreeT
variable {Rep : World → Value → List Pr → Nat → Prop}

theorem at_is {w : World} {v : Value} {L : List Pr} {h : Nat} (hT : Tr Rep) (hr : Rep w v L h) (hl : L.length ≤ 50000) (k : Nat) {x : Pr} (hx : L[k]? = some x) : Calls Try.prog 29 #[v, .int .i64 k] w fun e w' => e = .returned (.tuple #[.agg #[.string x.key, .string x.value, .bool x.gone], .bool true]) ∧ Below w.heap.size w w' := by
  have hk := (List.getElem?_eq_some_iff.1 hx).1
  have := hT.at_ (k : Int) hr hl (by omega) (by omega)
  rw [if_neg (by omega), Int.toNat_natCast, hx] at this
  exact this
theorem at_none {w : World} {v : Value} {L : List Pr} {h : Nat} (hT : Tr Rep) (hr : Rep w v L h) (hl : L.length ≤ 50000) (i : Int) (hi : i = -1 ∨ i = (L.length : Int)) : Calls Try.prog 29 #[v, .int .i64 i] w fun e w' => e = .returned (.tuple #[.agg #[.string ⟨#[]⟩, .string ⟨#[]⟩, .bool false], .bool false]) ∧ Below w.heap.size w w' := by
  have := hT.at_ i hr hl (by omega) (by omega)
  rcases hi with rfl | rfl
  · rw [if_pos (by omega)] at this
    exact this
  · rw [if_neg (by omega), Int.toNat_natCast, List.getElem?_eq_none (Nat.le_refl _)] at this
    exact this
theorem get_is {w : World} {v : Value} {L : List Pr} {h : Nat} (hT : Tr Rep) (hr : Rep w v L h) (hl : L.length ≤ 50000) {k : Nat} {x : Pr} (hx : L[k]? = some x) (hs : x.key.size ≤ maxLen) : Calls Try.prog 14 #[v, .string x.key] w fun e w' => e = .returned (.tuple #[.string x.value, .bool true]) ∧ Below w.heap.size w w' := by
  have := hT.get x.key hr hl hs
  rw [TreeM.get_at (hT.rise hr) hx] at this
  exact this
theorem rank_is {w : World} {v : Value} {L : List Pr} {h : Nat} (hT : Tr Rep) (hr : Rep w v L h) (hl : L.length ≤ 50000) {k : Nat} {x : Pr} (hx : L[k]? = some x) (hs : x.key.size ≤ maxLen) : Calls Try.prog 17 #[v, .string x.key] w fun e w' => e = .returned (.int .i64 (k : Nat)) ∧ Below w.heap.size w w' := by
  have := hT.rank x.key hr hl hs
  rw [rank_at (hT.rise hr) hx] at this
  exact this
def pairBlk (x : Pr) : Obj := .cells #[.string x.key, .string x.value, .bool x.gone] 60
theorem blk3 {W : World} {b : Nat} {x : Pr} {t : TypeId} (h : Blk W b #[.string x.key, .string x.value, .bool x.gone] t) : W.cell? ⟨b, 0, none⟩ = some (.string x.key) ∧ W.cell? ⟨b, 1, none⟩ = some (.string x.value) ∧ W.cell? ⟨b, 2, none⟩ = some (.bool x.gone) := ⟨h.cell 0, h.cell 1, h.cell 2⟩
theorem refrange_is {A : Option Addr} {n c : Nat} {L W : List Pr} {w : World} (a b : ByteArray) (hl : Sl prE w A n L) (hn : n ≤ 100000) (hw : rangeL a b L = W) : Calls Try.prog 21 #[.slice A n c, .string a, .string b] w (RowIs W w) := by
  subst hw
  exact (refrange_calls A n c L a b w hl hn).mono fun _ _ h => RowIs.of h
set_option maxRecDepth 100000 in
set_option maxHeartbeats 8000000 in
theorem same_calls (hT : Tr Rep) (A : Option Addr) (n c : Nat) (L : List Pr) (h : Nat) (v : Value) (w : World) (hl : Sl prE w A n L) (hr : Rep w v L h) (hn : n ≤ 50000) (hs : ∀ p ∈ L, p.key.size ≤ maxLen) :
    Calls Try.prog 16 #[v, .slice A n c] w fun e w' => e = .returned (.bool true) ∧ Below w.heap.size w w' := by
  have HT := Lib.hid hT
  have HL := Lib.hid hl
  have HR := Lib.hid hr
  have HS := Lib.hid hs
  have hLn : L.length = n := hl.1
  have HLN := Lib.hid hLn
  have hlb : L.length ≤ 50000 := by omega
  have HLB := Lib.hid hlb
  obtain ⟨W, hW⟩ : ∃ W, rangeL ⟨#[]⟩ FF L = W := ⟨_, rfl⟩
  have hWl : W.length ≤ 100000 := by rw [← hW]; exact Nat.le_trans (range_len _ _ _) (by omega)
  have HW := Lib.hid hW
  clear hT hl hr hs hLn hW hlb
  go_enter Try.func16, Try.ntmps16
  go_wp2_with fail
  refine (len_is HT.out HR.out HLN.out hn).mono ?_
  rintro e w1 ⟨rfl, hb1⟩
  have HB1 := Lib.hid hb1
  clear hb1
  go_wp2_with fail
  refine (range_is HT.out (HT.out.below HR.out HB1.out) ⟨#[]⟩ FF HW.out HLB.out (by decide) (by decide)).mono ?_
  rintro e w2 ⟨AB, cd, rfl, hs2, hb2⟩
  have HB2 := Lib.hid (keeps HB1.out hb2)
  have HS2 := Lib.hid hs2
  clear hb2 hs2
  go_wp2_with fail
  refine (refrange_is ⟨#[]⟩ FF (HL.out.below HB2.out) (by omega) HW.out).mono ?_
  rintro e w3 ⟨AC, ce, rfl, hs3, hb3⟩
  have HB3 := Lib.hid (keeps HB2.out hb3)
  have HS2' := Lib.hid (HS2.out.below hb3)
  have HS3 := Lib.hid hs3
  clear hb3 hs3
  go_wp2_with fail
  refine (refsame_calls _ _ _ _ _ _ W W _ HS2'.out HS3.out (by omega) (by omega) rfl).mono ?_
  rintro e w4 ⟨rfl, hb4⟩
  have HB4 := Lib.hid (keeps HB3.out hb4)
  clear hb4 HS2 HS2' HS3
  go_wp2
  go_loopw [30] (fun i wr => ∃ k : Nat, k ≤ n ∧ i = .int .i64 k ∧ Below w.heap.size w wr) (fun i _ => n - (intOf i).toNat)
  case atStart => exact ⟨0, Nat.zero_le _, rfl, HB4.out⟩
  case round =>
    obtain ⟨k, hk, rfl, hbel⟩ := hrel
    have HBL := Lib.hid hbel
    by_cases hlt : k < n
    · obtain ⟨x, g, o, hx, rfl, hg, hc⟩ := (HL.out.below hbel).get k hlt
      obtain ⟨_, _, _, hc3⟩ := pair_cells hc
      have HC := Lib.hid hc3
      have HX := Lib.hid hx
      have HXS := Lib.hid (HS.out x (List.mem_of_getElem? hx))
      have HQ1 := Lib.hid (Blk.new_ wr #[.string x.key, .string x.value, .bool x.gone] 60)
      have HB5 : Hid (Below w.heap.size w (wr.alloc (.cells #[.string x.key, .string x.value, .bool x.gone] 60))) := Lib.hid (hbel.alloc hbel.size _)
      clear hc hc3 hx hbel
      go_wp2_with ((with_reducible refine pick (some 34) ?_); refine wpList_load_mid rfl 60 _ rfl g (o + k * 3) rfl [.string x.key, .string x.value, .bool x.gone] _ HC.out Try.underlying60 rfl info_pair3 ?_)
      refine (at_is HT.out (HT.out.below HR.out HB5.out) HLB.out k HX.out).mono ?_
      rintro e w6 ⟨rfl, hb6⟩
      have hb6' := keeps HB5.out hb6
      have q2 := (HQ1.out.below hb6).alloc (.cells #[.string x.key, .string x.value, .bool x.gone] 60)
      have q3 := Blk.new_ w6 #[.string x.key, .string x.value, .bool x.gone] 60
      have HQ2 := Lib.hid q2
      have HQ3 := Lib.hid q3
      have HB7 : Hid (Below w.heap.size w (w6.alloc (.cells #[.string x.key, .string x.value, .bool x.gone] 60))) := Lib.hid (hb6'.alloc hb6'.size _)
      obtain ⟨c0, c1, c2⟩ := blk3 q2
      have hlt6 : wr.heap.size < w6.heap.size := (HQ1.out.below hb6).lt
      clear hb6 hb6' q2 q3 HQ1 HB5
      go_wp2_with fail
      refine (get_is HT.out (HT.out.below HR.out HB7.out) HLB.out HX.out HXS.out).mono ?_
      rintro e w8 ⟨rfl, hb8⟩
      obtain ⟨d0, d1, d2⟩ := blk3 (HQ2.out.below hb8)
      obtain ⟨e0, e1, e2⟩ := blk3 (HQ3.out.below hb8)
      have HB8 := Lib.hid (keeps HB7.out hb8)
      clear hb8 c0 c1 c2
      go_wp2_with fail
      refine (rank_is HT.out (HT.out.below HR.out HB8.out) HLB.out HX.out HXS.out).mono ?_
      rintro e w9 ⟨rfl, hb9⟩
      have HB9 := Lib.hid (keeps HB8.out hb9)
      clear hb9 d0 d1 d2 e0 e1 e2
      go_wp2_with fail
      go_roundw
      case rel => exact ⟨k + 1, by omega, by go_num, HB9.out⟩
      case measure => simp [intOf]; omega
    · obtain rfl : k = n := by omega
      clear hbel
      go_wp2_with fail
      refine (at_none HT.out (HT.out.below HR.out HBL.out) HLB.out (-1) (.inl rfl)).mono ?_
      rintro e w5 ⟨rfl, hb5⟩
      have hb5' := keeps HBL.out hb5
      have HB5 : Hid (Below w.heap.size w (w5.alloc (.cells #[.string ⟨#[]⟩, .string ⟨#[]⟩, .bool false] 60))) := Lib.hid (hb5'.alloc hb5'.size _)
      clear hb5 hb5'
      go_wp2_with fail
      refine (at_none HT.out (HT.out.below HR.out HB5.out) HLB.out (k : Int) (.inr (by rw [HLN.out]))).mono ?_
      rintro e w6 ⟨rfl, hb6⟩
      have hb6' := keeps HB5.out hb6
      have HB6 : Hid (Below w.heap.size w (w6.alloc (.cells #[.string ⟨#[]⟩, .string ⟨#[]⟩, .bool false] 60))) := Lib.hid (hb6'.alloc hb6'.size _)
      clear hb6 hb6'
      go_wp2_with fail
      go_ret
      exact ⟨rfl, HB6.out⟩
end Go.Proofs.Ytmbgbdhanobphaa.TreeN
