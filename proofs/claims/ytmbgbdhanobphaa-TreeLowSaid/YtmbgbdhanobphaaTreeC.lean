/- Layer 10: the law's cut: as many operations as are gone through. -/
import Derived.Test.YtmbgbdhanobphaaTreeS
namespace Go.Proofs.Ytmbgbdhanobphaa.TreeC
set_option linter.unusedVariables false
set_option linter.unusedSimpArgs false
open Go.RowKit
open Go.Proofs.Ytmbgbdhanobphaa.Byte Go.Proofs.Ytmbgbdhanobphaa.KeysM Go.Proofs.Ytmbgbdhanobphaa.TreeM Go.Proofs.Ytmbgbdhanobphaa.Own Go.Proofs.Ytmbgbdhanobphaa.Rw Go.Proofs.Ytmbgbdhanobphaa.Lst Go.Proofs.Ytmbgbdhanobphaa.TreeR Go.Proofs.Ytmbgbdhanobphaa.TreeS

structure Op10 where
  kind : Int
  from_ : Int
  key : ByteArray
  value : ByteArray
deriving Inhabited
def opE : Enc Op10 := ⟨fun p => [.int .i64 p.kind, .int .u16 p.from_, .string p.key, .string p.value], 4, fun _ => rfl, fun x u hu => by
  simp only [List.mem_cons, List.mem_nil_iff, or_false] at hu
  rcases hu with rfl | rfl | rfl | rfl <;> rfl, by decide⟩
theorem info_op4 : (Try.prog.info? 31).map (·.size) = some 4 := by kernel_rfl
/-- An operation that may be gone through. -/
def okOp (p : Op10) : Prop := p.key.size ≤ 200 ∧ p.value.size ≤ 200
/-- What may come in: the numbers fit their kinds. -/
def fitOp (p : Op10) : Prop := (-9223372036854775808 ≤ p.kind ∧ p.kind ≤ 9223372036854775807) ∧ (0 ≤ p.from_ ∧ p.from_ ≤ 65535) ∧ p.key.size ≤ maxLen ∧ p.value.size ≤ maxLen
theorem op_cells {w : World} {b o k : Nat} {x : Op10} (h : w.rangeAt b (o + k * opE.size) (opE.cells x)) : w.cell? ⟨b, o + k * 4, none⟩ = some (.int .i64 x.kind) ∧ w.cell? ⟨b, o + k * 4 + 1, none⟩ = some (.int .u16 x.from_) ∧ w.cell? ⟨b, o + k * 4 + 2, none⟩ = some (.string x.key) ∧ w.cell? ⟨b, o + k * 4 + 3, none⟩ = some (.string x.value) ∧ w.rangeAt b (o + k * 4) [.int .i64 x.kind, .int .u16 x.from_, .string x.key, .string x.value] :=
  ⟨h 0 _ rfl, h 1 _ rfl, h 2 _ rfl, h 3 _ rfl, h⟩
/-- The call answers with a front of the operations, all of which may be gone through. -/
def Front (A : Option Addr) (n c : Nat) (L : List Op10) (w : World) (e : Ending) (w' : World) : Prop := ∃ m, e = .returned (.slice A m c) ∧ m ≤ n ∧ m ≤ 200 ∧ (∀ p ∈ L.take m, okOp p) ∧ Below w.heap.size w w'
set_option maxHeartbeats 4000000 in
theorem cut_calls (A : Option Addr) (n c : Nat) (L : List Op10) (w : World) (hl : Sl opE w A n L) (hn : n ≤ c) (hc : c ≤ maxLen) (hf : ∀ p ∈ L, fitOp p) :
    Calls Try.prog 9 #[.slice A n c] w (Front A n c L w) := by
  unfold maxLen at hc
  have HL := Lib.hid hl
  have HF := Lib.hid hf
  clear hl hf
  go_enter Try.func9, Try.ntmps9
  go_wp2
  go_loopw [7] (fun i wr => ∃ k : Nat, k ≤ n ∧ k ≤ 200 ∧ i = .int .i64 k ∧ Hid (∀ p ∈ L.take k, okOp p) ∧ Below w.heap.size w wr) (fun i _ => n - (intOf i).toNat)
  case atStart => exact ⟨0, Nat.zero_le _, Nat.zero_le _, rfl, Lib.hid (fun p hp => by simp at hp), Below.refl _ _⟩
  case round =>
    obtain ⟨k, hk, hk2, rfl, HK, hbel⟩ := hrel
    by_cases hlt : k < n
    · obtain ⟨x, g, o, hx, rfl, hg, hcl⟩ := (HL.out.below hbel).get k hlt
      obtain ⟨_, _, _, _, hc3⟩ := op_cells hcl
      have HC := Lib.hid hc3
      have HX := Lib.hid hx
      have HBL := Lib.hid hbel
      have hbs := hbel.size
      have hfx := HF.out x (List.mem_of_getElem? hx)
      obtain ⟨⟨_, _⟩, ⟨_, _⟩, f1, f2⟩ := hfx
      unfold maxLen at f1 f2
      obtain ⟨kind, from_, key, value⟩ := x
      dsimp only at f1 f2 hc3
      have hkc : k ≤ c := by omega
      have hb1 : Below w.heap.size w (wr.alloc (.cells #[.int .i64 kind, .int .u16 from_, .string key, .string value] 31)) := hbel.alloc hbs _
      have HB1 := Lib.hid hb1
      clear hcl hc3 hx hbel hb1
      rcases (show 200 ≤ k ∨ (k < 200 ∧ 200 < key.size) ∨ (k < 200 ∧ key.size ≤ 200 ∧ 200 < value.size) ∨ (k < 200 ∧ key.size ≤ 200 ∧ value.size ≤ 200) by omega) with q | ⟨q, q1⟩ | ⟨q, q1, q2⟩ | ⟨q, q1, q2⟩
      · have d1 : decide ((200 : Int) ≤ (k : Int)) = true := decide_eq_true (by omega)
        go_wp2_with ((with_reducible refine pick (some 11) ?_); refine wpList_load_mid rfl 31 _ rfl g (o + k * 4) rfl [.int .i64 kind, .int .u16 from_, .string key, .string value] _ HC.out Try.underlying31 rfl info_op4 ?_)
        go_ret
        exact ⟨k, rfl, hk, hk2, HK.out, HB1.out⟩
      · have d1 : decide ((200 : Int) ≤ (k : Int)) = false := decide_eq_false (by omega)
        have d2 : decide ((200 : Int) < (key.size : Int)) = true := decide_eq_true (by omega)
        go_wp2_with ((with_reducible refine pick (some 11) ?_); refine wpList_load_mid rfl 31 _ rfl g (o + k * 4) rfl [.int .i64 kind, .int .u16 from_, .string key, .string value] _ HC.out Try.underlying31 rfl info_op4 ?_)
        go_ret
        exact ⟨k, rfl, hk, hk2, HK.out, HB1.out⟩
      · have d1 : decide ((200 : Int) ≤ (k : Int)) = false := decide_eq_false (by omega)
        have d2 : decide ((200 : Int) < (key.size : Int)) = false := decide_eq_false (by omega)
        have d3 : decide ((200 : Int) < (value.size : Int)) = true := decide_eq_true (by omega)
        go_wp2_with ((with_reducible refine pick (some 11) ?_); refine wpList_load_mid rfl 31 _ rfl g (o + k * 4) rfl [.int .i64 kind, .int .u16 from_, .string key, .string value] _ HC.out Try.underlying31 rfl info_op4 ?_)
        go_ret
        exact ⟨k, rfl, hk, hk2, HK.out, HB1.out⟩
      · have d1 : decide ((200 : Int) ≤ (k : Int)) = false := decide_eq_false (by omega)
        have d2 : decide ((200 : Int) < (key.size : Int)) = false := decide_eq_false (by omega)
        have d3 : decide ((200 : Int) < (value.size : Int)) = false := decide_eq_false (by omega)
        go_wp2_with ((with_reducible refine pick (some 11) ?_); refine wpList_load_mid rfl 31 _ rfl g (o + k * 4) rfl [.int .i64 kind, .int .u16 from_, .string key, .string value] _ HC.out Try.underlying31 rfl info_op4 ?_)
        go_roundw
        case rel => exact ⟨k + 1, by omega, by omega, by go_num, Lib.hid (fun p hp => (by
          rw [take_next HX.out] at hp
          rcases List.mem_append.1 hp with h | h
          · exact HK.out p h
          · rw [List.mem_singleton] at h
            subst h
            exact ⟨q1, q2⟩)), HB1.out⟩
        case measure => simp [intOf]; omega
    · obtain rfl : k = n := by omega
      have HBL := Lib.hid hbel
      clear hbel
      go_wp2
      go_ret
      exact ⟨k, rfl, Nat.le_refl _, hk2, HK.out, HBL.out⟩
end Go.Proofs.Ytmbgbdhanobphaa.TreeC
