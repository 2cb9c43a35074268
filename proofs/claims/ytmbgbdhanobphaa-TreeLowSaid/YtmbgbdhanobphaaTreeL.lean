/- Layer 10's laws, over what the project's functions are asked: what a tree is good for (Tr); fixed; TreeStays. -/
import Derived.Test.YtmbgbdhanobphaaTreeC
namespace Go.Proofs.Ytmbgbdhanobphaa.TreeL
set_option linter.unusedVariables false
set_option linter.unusedSimpArgs false
open Go.RowKit
open Go.Proofs.Ytmbgbdhanobphaa.Byte Go.Proofs.Ytmbgbdhanobphaa.KeysM Go.Proofs.Ytmbgbdhanobphaa.TreeM Go.Proofs.Ytmbgbdhanobphaa.Own Go.Proofs.Ytmbgbdhanobphaa.Rw Go.Proofs.Ytmbgbdhanobphaa.Lst Go.Proofs.Ytmbgbdhanobphaa.TreeR Go.Proofs.Ytmbgbdhanobphaa.TreeS Go.Proofs.Ytmbgbdhanobphaa.TreeC

/-- The call answers with a row that reads as these pairs; nothing that was there has changed. -/
def RowIs (M : List Pr) (w : World) (e : Ending) (w' : World) : Prop := ∃ A c, e = .returned (.slice A M.length c) ∧ Sl prE w' A M.length M ∧ Below w.heap.size w w'
theorem RowIs.of {M : List Pr} {w w' : World} {e : Ending} (h : Made M w e w') : RowIs M w e w' := by
  obtain ⟨v, rfl, ho, hb⟩ := h
  rcases ho.form with ⟨rfl, h0⟩ | ⟨g, cap, rfl, _⟩
  · refine ⟨none, 0, by rw [h0], ?_, hb⟩
    have := List.eq_nil_of_length_eq_zero h0
    subst this
    exact Sl.nil_ _ _ _
  · exact ⟨some ⟨g, 0, none⟩, cap, rfl, ho.sl, hb⟩
def AtV (o : Option Pr) : Value := match o with | some p => .tuple #[.agg #[.string p.key, .string p.value, .bool p.gone], .bool true] | none => .tuple #[.agg #[.string ⟨#[]⟩, .string ⟨#[]⟩, .bool false], .bool false]
/-- All trees' nodes stay as they are. -/
def Kept (w w' : World) : Prop := ∀ (b : Nat) (cs : Array Value) (U : TypeId) (fr : Nat × Nat), (U = 56 ∨ U = 63) → w.heap[b]? = some (.cells cs U fr) → w'.heap[b]? = some (.cells cs U fr)
theorem Kept.of_below {w w' : World} (h : Below w.heap.size w w') : Kept w w' := fun b cs U fr _ hb => by
  rcases Nat.lt_or_ge b w.heap.size with h1 | h1
  · rw [h.block b h1, hb]
  · rw [Array.getElem?_eq_none h1] at hb
    cases hb
theorem Kept.of_grown {α : Type} {e : Enc α} {T : TypeId} {w w' : World} {base : Nat} {v : Value} {n : Nat} {L : List α} (h : So e T w base v n L) (hg : w.grownBy w' v.ownBlock) (hne : 56 ≠ T ∧ 63 ≠ T) : Kept w w' := fun b cs U fr hU hb => h.stays hg hb (by rcases hU with rfl | rfl; exact hne.1; exact hne.2)
/-- What the project's trees are asked: 'Rep w v L h': in the world w the value v is a tree with the pairs L, h high. -/
structure Tr (Rep : World → Value → List Pr → Nat → Prop) : Prop where
  keep : ∀ {w w' v L h}, Rep w v L h → Kept w w' → Rep w' v L h
  rise : ∀ {w v L h}, Rep w v L h → Rise L
  low : ∀ {w v L h}, Rep w v L h → lowB L.length h = true
  form : ∀ {w v L h}, Rep w v L h → ∃ A, v = .pointer A
  new : ∀ w, Calls Try.prog 8 #[] w fun e w' => ∃ v h, e = .returned v ∧ Rep w' v [] h ∧ Below w.heap.size w w'
  set : ∀ {w v L h} (k x : ByteArray), Rep w v L h → L.length ≤ 50000 → k.size ≤ maxLen → x.size ≤ maxLen → Calls Try.prog 10 #[v, .string k, .string x] w fun e w' => ∃ v' h', e = .returned v' ∧ Rep w' v' (putL k x L) h' ∧ Below w.heap.size w w'
  cut : ∀ {w v L h} (k : ByteArray), Rep w v L h → L.length ≤ 50000 → k.size ≤ maxLen → Calls Try.prog 12 #[v, .string k] w fun e w' => ∃ v' h', e = .returned v' ∧ Rep w' v' (cutL k L) h' ∧ Below w.heap.size w w'
  get : ∀ {w v L h} (k : ByteArray), Rep w v L h → L.length ≤ 50000 → k.size ≤ maxLen → Calls Try.prog 14 #[v, .string k] w fun e w' => e = .returned (GotV (getL k L)) ∧ Below w.heap.size w w'
  len : ∀ {w v L h}, Rep w v L h → L.length ≤ 50000 → Calls Try.prog 22 #[v] w fun e w' => e = .returned (.int .i64 (L.length : Nat)) ∧ Below w.heap.size w w'
  high : ∀ {w v L h}, Rep w v L h → L.length ≤ 50000 → Calls Try.prog 23 #[v] w fun e w' => e = .returned (.int .i64 (h : Nat)) ∧ Below w.heap.size w w'
  range : ∀ {w v L h} (a b : ByteArray), Rep w v L h → L.length ≤ 50000 → a.size ≤ maxLen → b.size ≤ maxLen → Calls Try.prog 20 #[v, .string a, .string b] w (RowIs (rangeL a b L) w)
  at_ : ∀ {w v L h} (i : Int), Rep w v L h → L.length ≤ 50000 → -1 ≤ i → i ≤ 100000 → Calls Try.prog 29 #[v, .int .i64 i] w fun e w' => e = .returned (AtV (if i < 0 then none else L[i.toNat]?)) ∧ Below w.heap.size w w'
  rank : ∀ {w v L h} (k : ByteArray), Rep w v L h → L.length ≤ 50000 → k.size ≤ maxLen → Calls Try.prog 17 #[v, .string k] w fun e w' => e = .returned (.int .i64 (rankL k L : Nat)) ∧ Below w.heap.size w w'
variable {Rep : World → Value → List Pr → Nat → Prop}
theorem Tr.below (hT : Tr Rep) {w w' : World} {v : Value} {L : List Pr} {h : Nat} (hr : Rep w v L h) (hb : Below w.heap.size w w') : Rep w' v L h := hT.keep hr (Kept.of_below hb)
theorem fits {s : ByteArray} {n : Nat} (h : s.size ≤ n) (hn : n ≤ 100000) : s.size ≤ maxLen := by
  unfold maxLen
  omega
theorem ex_1 : (putL ⟨#[97]⟩ ⟨#[]⟩ []).length = 1 := by decide +kernel
theorem ex_2 : (putL ⟨#[98]⟩ ⟨#[]⟩ (putL ⟨#[97]⟩ ⟨#[]⟩ [])).length = 2 := by decide +kernel
theorem ex_3 : (cutL ⟨#[97]⟩ (putL ⟨#[98]⟩ ⟨#[]⟩ (putL ⟨#[97]⟩ ⟨#[]⟩ []))).length = 1 := by decide +kernel
theorem len_is {w : World} {v : Value} {L : List Pr} {h n : Nat} (hT : Tr Rep) (hr : Rep w v L h) (hn : L.length = n) (hb : n ≤ 50000) : Calls Try.prog 22 #[v] w fun e w' => e = .returned (.int .i64 (n : Nat)) ∧ Below w.heap.size w w' := by
  subst hn
  exact hT.len hr hb
set_option maxHeartbeats 1000000 in
theorem fixed_calls (hT : Tr Rep) (w : World) : Calls Try.prog 7 #[] w fun e w' => e = .returned (.bool true) ∧ Below w.heap.size w w' := by
  have HT := Lib.hid hT
  clear hT
  go_enter Try.func7, Try.ntmps7
  go_wp2_with fail
  refine (HT.out.new _).mono ?_
  rintro e w1 ⟨v0, h0, rfl, hr0, hb1⟩
  have HB1 := Lib.hid hb1
  have HR0 := Lib.hid hr0
  clear hb1 hr0
  go_wp2_with fail
  refine (HT.out.set _ _ HR0.out (by simp) (by decide) (by decide)).mono ?_
  rintro e w2 ⟨v1, h1, rfl, hr1, hb2⟩
  have HB2 := Lib.hid (keeps HB1.out hb2)
  have HR1 := Lib.hid hr1
  clear hb2 hr1
  go_wp2_with fail
  refine (HT.out.set _ _ HR1.out (by rw [ex_1]; omega) (by decide) (by decide)).mono ?_
  rintro e w3 ⟨v2, h2, rfl, hr2, hb3⟩
  have HB3 := Lib.hid (keeps HB2.out hb3)
  have HR1' := Lib.hid (HT.out.below HR1.out hb3)
  have HR2 := Lib.hid hr2
  clear hb3 hr2 HR1
  go_wp2_with fail
  refine (HT.out.cut _ HR2.out (by rw [ex_2]; omega) (by decide)).mono ?_
  rintro e w4 ⟨v3, h3, rfl, hr3, hb4⟩
  have HB4 := Lib.hid (keeps HB3.out hb4)
  have HR1 := Lib.hid (HT.out.below HR1'.out hb4)
  have HR2' := Lib.hid (HT.out.below HR2.out hb4)
  have HR3 := Lib.hid hr3
  clear hb4 hr3 HR2 HR1'
  go_wp2_with fail
  refine (len_is HT.out HR1.out ex_1 (by omega)).mono ?_
  rintro e w5 ⟨rfl, hb5⟩
  have HB5 := Lib.hid (keeps HB4.out hb5)
  have HR2 := Lib.hid (HT.out.below HR2'.out hb5)
  have HR3' := Lib.hid (HT.out.below HR3.out hb5)
  clear hb5 HR1 HR2' HR3
  go_wp2_with fail
  refine (len_is HT.out HR2.out ex_2 (by omega)).mono ?_
  rintro e w6 ⟨rfl, hb6⟩
  have HB6 := Lib.hid (keeps HB5.out hb6)
  have HR3 := Lib.hid (HT.out.below HR3'.out hb6)
  clear hb6 HR2 HR3'
  go_wp2_with fail
  refine (len_is HT.out HR3.out ex_3 (by omega)).mono ?_
  rintro e w7 ⟨rfl, hb7⟩
  have HB7 := Lib.hid (keeps HB6.out hb7)
  clear hb7
  go_wp2_with fail
  go_ret
  exact ⟨rfl, HB7.out⟩
def FixOk : Prop := ∀ w : World, Calls Try.prog 7 #[] w fun e w' => e = .returned (.bool true) ∧ Below w.heap.size w w'
end Go.Proofs.Ytmbgbdhanobphaa.TreeL
