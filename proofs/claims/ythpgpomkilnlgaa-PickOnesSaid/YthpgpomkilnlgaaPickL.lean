/- Layer 11's laws, over what the project's functions are asked: fixed, is, great. -/
import Derived.Test.YthpgpomkilnlgaaPickRe
import Derived.Test.YthpgpomkilnlgaaPickRo
import Derived.Test.YthpgpomkilnlgaaPickRp
namespace Go.Proofs.Ythpgpomkilnlgaa.PickL
set_option linter.unusedVariables false
set_option linter.unusedSimpArgs false
open Go.RowKit
open Go.Proofs.Ythpgpomkilnlgaa.Byte Go.Proofs.Ythpgpomkilnlgaa.PickM Go.Proofs.Ythpgpomkilnlgaa.PickN Go.Proofs.Ythpgpomkilnlgaa.Own Go.Proofs.Ythpgpomkilnlgaa.Rw Go.Proofs.Ythpgpomkilnlgaa.Lst Go.Proofs.Ythpgpomkilnlgaa.PickR Go.Proofs.Ythpgpomkilnlgaa.PickRe

/-- The number that is answered: 0 of none. -/
def ansN (b : Bst) : Int := match b with | none => 0 | some q => q.1
/-- The call answers with the number and whether there is one. -/
def PickOk (f : FuncId) (g : List Inf → Bst) : Prop := ∀ (A : Option Addr) (n c : Nat) (L : List Inf) (w : World), Sl infE w A n L → n ≤ c → c ≤ maxLen → n ≤ 100000 → Fit L →
  Calls Try.prog f #[.slice A n c] w fun e w' => e = .returned (.tuple #[.int .i64 (ansN (g L)), .bool (g L).isSome]) ∧ Below w.heap.size w w'
def blankN (l : List Inf) : Nat := (l.filter isBlank).length
def lowS (s : Nat × Int) (x : Inf) : Nat × Int := (s.1 + 1, if s.1 = 0 ∨ x.wear < s.2 then x.wear else s.2)
def lowL (l : List Inf) : Int := (l.foldl lowS (0, 0)).2
def highS (s : Nat × Int) (x : Inf) : Nat × Int := (s.1 + 1, if s.1 = 0 ∨ s.2 < x.wear then x.wear else s.2)
def highL (l : List Inf) : Int := (l.foldl highS (0, 0)).2
theorem low_len (l : List Inf) : ∀ s, (l.foldl lowS s).1 = s.1 + l.length := by
  induction l with
  | nil => intro s; rfl
  | cons x l ih => intro s; rw [List.foldl_cons, ih, List.length_cons]; simp only [lowS]; omega
theorem high_len (l : List Inf) : ∀ s, (l.foldl highS s).1 = s.1 + l.length := by
  induction l with
  | nil => intro s; rfl
  | cons x l ih => intro s; rw [List.foldl_cons, ih, List.length_cons]; simp only [highS]; omega
theorem low_next {l : List Inf} {i : Nat} {x : Inf} (h : l[i]? = some x) : lowL (l.take (i + 1)) = if i = 0 ∨ x.wear < lowL (l.take i) then x.wear else lowL (l.take i) := by
  have hl := (List.getElem?_eq_some_iff.1 h).1
  unfold lowL
  rw [PickM.take_next h, List.foldl_append, List.foldl_cons, List.foldl_nil]
  show (if ((l.take i).foldl lowS (0, 0)).1 = 0 ∨ _ then _ else _) = _
  rw [low_len, List.length_take, Nat.zero_add, Nat.min_eq_left (by omega)]
theorem high_next {l : List Inf} {i : Nat} {x : Inf} (h : l[i]? = some x) : highL (l.take (i + 1)) = if i = 0 ∨ highL (l.take i) < x.wear then x.wear else highL (l.take i) := by
  have hl := (List.getElem?_eq_some_iff.1 h).1
  unfold highL
  rw [PickM.take_next h, List.foldl_append, List.foldl_cons, List.foldl_nil]
  show (if ((l.take i).foldl highS (0, 0)).1 = 0 ∨ _ then _ else _) = _
  rw [high_len, List.length_take, Nat.zero_add, Nat.min_eq_left (by omega)]
theorem blank_next {l : List Inf} {i : Nat} {x : Inf} (h : l[i]? = some x) : blankN (l.take (i + 1)) = blankN (l.take i) + (if isBlank x then 1 else 0) := by
  unfold blankN
  rw [PickM.take_next h, List.filter_append, List.length_append]
  congr 1
  cases hb : isBlank x <;> simp [hb]
/-- What the laws ask of the project's pick. -/
structure Picks : Prop where
  write : PickOk 8 writeL
  erase : PickOk 9 eraseL
  once : PickOk 10 onceL
  old : PickOk 11 oldL
  blank : ∀ (A : Option Addr) (n c : Nat) (L : List Inf) (w : World), Sl infE w A n L → n ≤ c → c ≤ maxLen → n ≤ 100000 → Fit L →
    Calls Try.prog 17 #[.slice A n c] w fun e w' => e = .returned (.int .i64 (blankN L : Nat)) ∧ Below w.heap.size w w'
  lead : ∀ (A : Option Addr) (n c : Nat) (L : List Inf) (w : World), Sl infE w A n L → n ≤ c → c ≤ maxLen → n ≤ 100000 → Fit L →
    Calls Try.prog 18 #[.slice A n c] w fun e w' => e = .returned (.int .i64 (highL L - lowL L)) ∧ Below w.heap.size w w'
def exL : List Inf := [⟨0, false, 3, 0, 0, false⟩, ⟨0, false, 2, 0, 0, false⟩]
theorem ex_write : ansN (writeL exL) = 1 ∧ (writeL exL).isSome = true := by decide
theorem ex_fit : Fit exL := by
  unfold Fit
  decide
theorem write_ex (hP : Picks) (A : Option Addr) (c : Nat) (w : World) (hl : Sl infE w A 2 exL) (hn : 2 ≤ c) (hc : c ≤ maxLen) : Calls Try.prog 8 #[.slice A (2 : Nat) c] w fun e w' => e = .returned (.tuple #[.int .i64 1, .bool true]) ∧ Below w.heap.size w w' := by
  have := hP.write A 2 c exL w hl hn hc (by omega) ex_fit
  rw [ex_write.1, ex_write.2] at this
  exact this
set_option maxHeartbeats 1000000 in
theorem fixed_calls (hP : Picks) (w : World) : Calls Try.prog 7 #[] w fun e w' => e = .returned (.bool true) ∧ Below w.heap.size w w' := by
  have HP := Lib.hid hP
  have HS := Lib.hid ((So.lit infE 29 w exL (flat infE exL).toArray 2 rfl rfl (Nat.le_refl w.heap.size) (by decide)).sl)
  have hb1 : Below w.heap.size w (w.alloc (.cells (flat infE exL).toArray 29)) := (Below.refl _ _).alloc (Nat.le_refl _) _
  have HB1 := Lib.hid hb1
  clear hP hb1
  go_enter Try.func7, Try.ntmps7
  go_wp2_with (go_at_call 8; refine (write_ex HP.out _ _ _ HS.out (by omega) (by decide)).mono ?_; rintro e w2 ⟨rfl, hb2⟩; have HB2 := Lib.hid (keeps HB1.out hb2); clear hb2)
  go_ret
  exact ⟨rfl, HB2.out⟩
set_option maxHeartbeats 1000000 in
theorem is_calls (b : Bst) (N : Nat) (w : World) (hb : ∀ i x, b = some (i, x) → i < N) (hN : N ≤ 100000) : Calls Try.prog 12 #[.int .i64 (ansN b), .bool b.isSome, .int .i64 (num b)] w fun e w' => e = .returned (.bool true) ∧ w = w' := by
  cases b with
  | none =>
    rw [show ansN (none : Bst) = 0 from rfl, show num (none : Bst) = -1 from rfl, show (none : Bst).isSome = false from rfl]
    clear hb
    go_enter Try.func12, Try.ntmps12
    go_wp2_with fail
    go_ret
    exact ⟨rfl, rfl⟩
  | some q =>
    obtain ⟨i, x⟩ := q
    have h1 := hb i x rfl
    rw [show ansN (some (i, x) : Bst) = (i : Int) from rfl, show num (some (i, x) : Bst) = (i : Int) from rfl, show (some (i, x) : Bst).isSome = true from rfl]
    have d1 : decide ((0 : Int) ≤ (i : Int)) = true := decide_eq_true (by omega)
    have d2 : ((i : Int) == (i : Int)) = true := beq_self_eq_true _
    clear hb
    go_enter Try.func12, Try.ntmps12
    go_wp2_with fail
    go_ret
    exact ⟨rfl, rfl⟩
theorem is_best {p : Inf → Bool} {lt : Inf → Inf → Bool} {L : List Inf} {i : Nat} {x : Inf} (h : bestL p lt L = some (i, x)) : i < L.length := by
  rw [← List.take_length (l := L)] at h
  exact (best_in _ (Nat.le_refl _) h).1
theorem is_or {a b : Bst} {N : Nat} (ha : ∀ i x, a = some (i, x) → i < N) (hb : ∀ i x, b = some (i, x) → i < N) : ∀ i x, orB a b = some (i, x) → i < N := by
  cases a with
  | none => exact hb
  | some q => exact ha
theorem is_erase {L : List Inf} : ∀ i x, eraseL L = some (i, x) → i < L.length :=
  is_or (fun i x h => is_best h) (is_or (fun i x h => is_best h) (fun i x h => is_best h))
/-- The call answers; if it says no, all may be gone through. -/
def GreatR (n : Nat) (L : List Inf) (w : World) (e : Ending) (w' : World) : Prop := ∃ g : Bool, e = .returned (.bool g) ∧ (g = false → n ≤ 200 ∧ Fit L) ∧ Below w.heap.size w w'
set_option maxHeartbeats 2000000 in
theorem great_calls (A : Option Addr) (n c : Nat) (L : List Inf) (w : World) (hl : Sl infE w A n L) (hn : n ≤ c) (hc : c ≤ maxLen) (hf : ∀ x ∈ L, -9223372036854775808 ≤ x.wear ∧ x.wear ≤ 9223372036854775807) : Calls Try.prog 6 #[.slice A n c] w (GreatR n L w) := by
  unfold maxLen at hc
  have HL := Lib.hid hl
  have HF := Lib.hid hf
  clear hl hf
  go_enter Try.func6, Try.ntmps6
  go_wp2
  go_loopw [7] (fun i wr => ∃ k : Nat, k ≤ n ∧ i = .int .i64 k ∧ Hid (Fit (L.take k)) ∧ Below w.heap.size w wr) (fun i _ => n - (intOf i).toNat)
  case atStart => exact ⟨0, Nat.zero_le _, rfl, Lib.hid (fun x hx => by simp at hx), Below.refl _ _⟩
  case round =>
    obtain ⟨k, hk, rfl, HK, hbel⟩ := hrel
    by_cases hlt : k < n
    · obtain ⟨x, g, o, hx, rfl, hg, hcl⟩ := (HL.out.below hbel).get k hlt
      have hfx := HF.out x (List.mem_of_getElem? hx)
      obtain ⟨f0, f1⟩ := hfx
      have HC : Hid (wr.rangeAt g (o + k * 6) [.int .i64 x.cls, .bool x.opn, .int .i64 x.wear, .int .u64 x.age, .int .i64 x.need, .bool x.held]) := Lib.hid hcl
      have HX := Lib.hid hx
      have hb1 : Below w.heap.size w (wr.alloc (.cells #[.int .i64 x.cls, .bool x.opn, .int .i64 x.wear, .int .u64 x.age, .int .i64 x.need, .bool x.held] 29)) := hbel.alloc hbel.size _
      have HB1 := Lib.hid hb1
      clear hcl hx hbel hb1
      rcases (show 1099511627776 < x.wear ∨ (x.wear ≤ 1099511627776 ∧ x.wear < -1099511627776) ∨ (x.wear ≤ 1099511627776 ∧ -1099511627776 ≤ x.wear) by omega) with q | ⟨q, q2⟩ | ⟨q, q2⟩
      · have d1 : decide ((1099511627776 : Int) < x.wear) = true := decide_eq_true q
        go_wp2_with ((with_reducible refine pick (some 10) ?_); refine wpList_load_mid rfl 29 _ rfl g (o + k * 6) rfl [.int .i64 x.cls, .bool x.opn, .int .i64 x.wear, .int .u64 x.age, .int .i64 x.need, .bool x.held] _ HC.out Try.underlying29 rfl info_inf6 ?_)
        go_ret
        exact ⟨true, rfl, (fun h => by cases h), HB1.out⟩
      · have d1 : decide ((1099511627776 : Int) < x.wear) = false := decide_eq_false (by omega)
        have d2 : decide (x.wear < -1099511627776) = true := decide_eq_true q2
        go_wp2_with ((with_reducible refine pick (some 10) ?_); refine wpList_load_mid rfl 29 _ rfl g (o + k * 6) rfl [.int .i64 x.cls, .bool x.opn, .int .i64 x.wear, .int .u64 x.age, .int .i64 x.need, .bool x.held] _ HC.out Try.underlying29 rfl info_inf6 ?_)
        go_ret
        exact ⟨true, rfl, (fun h => by cases h), HB1.out⟩
      · have d1 : decide ((1099511627776 : Int) < x.wear) = false := decide_eq_false (by omega)
        have d2 : decide (x.wear < -1099511627776) = false := decide_eq_false (by omega)
        go_wp2_with ((with_reducible refine pick (some 10) ?_); refine wpList_load_mid rfl 29 _ rfl g (o + k * 6) rfl [.int .i64 x.cls, .bool x.opn, .int .i64 x.wear, .int .u64 x.age, .int .i64 x.need, .bool x.held] _ HC.out Try.underlying29 rfl info_inf6 ?_)
        go_roundw
        case rel => exact ⟨k + 1, by omega, by go_num, Lib.hid (fun y hy => by
          rw [PickM.take_next HX.out] at hy
          rcases List.mem_append.1 hy with h | h
          · exact HK.out y h
          · rw [List.mem_singleton] at h
            subst h
            exact ⟨q2, q⟩), HB1.out⟩
        case measure => simp [intOf]; omega
    · obtain rfl : k = n := by omega
      have HBL := Lib.hid hbel
      have e : L.take k = L := List.take_of_length_le (by rw [HL.out.1]; exact Nat.le_refl _)
      have HK2 : Hid (Fit L) := Lib.hid (by rw [← e]; exact HK.out)
      clear hbel e
      by_cases h200 : 200 < k
      · have d1 : decide ((200 : Int) < (k : Int)) = true := decide_eq_true (by omega)
        go_wp2_with fail
        go_ret
        exact ⟨true, rfl, (fun h => by cases h), HBL.out⟩
      · have d1 : decide ((200 : Int) < (k : Int)) = false := decide_eq_false (by omega)
        go_wp2_with fail
        go_ret
        exact ⟨false, rfl, fun _ => ⟨by omega, HK2.out⟩, HBL.out⟩
end Go.Proofs.Ythpgpomkilnlgaa.PickL
