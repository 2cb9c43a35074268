/- Layer 14's law ViewNil, over what the project's view is asked where it is nil. -/
import Derived.Test.YtdnenikplajmaaaViewP
import Derived.WalkSpells
namespace Go.Proofs.Ytdnenikplajmaaa.ViewN
set_option linter.unusedVariables false
set_option linter.unusedSimpArgs false
open Go.RowKit
open Go.Proofs.Ytdnenikplajmaaa.Byte Go.Proofs.Ytdnenikplajmaaa.KeysM Go.Proofs.Ytdnenikplajmaaa.TreeM Go.Proofs.Ytdnenikplajmaaa.ViewM Go.Proofs.Ytdnenikplajmaaa.Own Go.Proofs.Ytdnenikplajmaaa.Rw Go.Proofs.Ytdnenikplajmaaa.Lst Go.Proofs.Ytdnenikplajmaaa.TreeR Go.Proofs.Ytdnenikplajmaaa.TreeS Go.Proofs.Ytdnenikplajmaaa.ViewR Go.Proofs.Ytdnenikplajmaaa.ViewL Go.Proofs.Ytdnenikplajmaaa.ViewB

/-- What a nil view is asked. -/
structure VwNil : Prop where
  get : ∀ (w : World) (k : ByteArray), Calls Try.prog 20 #[.pointer none, .string k] w fun e w' => e = .returned (.tuple #[.string ⟨#[]⟩, .bool false]) ∧ Below w.heap.size w w'
  look : ∀ (w : World) (k : ByteArray), Calls Try.prog 21 #[.pointer none, .string k] w fun e w' => e = .returned (.tuple #[.string ⟨#[]⟩, .bool false]) ∧ Below w.heap.size w w'
  range : ∀ (w : World) (x : ByteArray) (y : ByteArray), Calls Try.prog 22 #[.pointer none, .string x, .string y] w fun e w' => ∃ (A : Option Addr) (c : Nat), e = .returned (.slice A (0 : Nat) c) ∧ Below w.heap.size w w'
  set : ∀ (w : World) (k : ByteArray) (x : ByteArray), Calls Try.prog 16 #[.pointer none, .string k, .string x] w fun e w' => e = .returned (.bool false) ∧ Below w.heap.size w w'
  cut : ∀ (w : World) (k : ByteArray), Calls Try.prog 19 #[.pointer none, .string k] w fun e w' => e = .returned (.bool false) ∧ Below w.heap.size w w'
  writes : ∀ (w : World), Calls Try.prog 17 #[.pointer none] w fun e w' => ∃ (A : Option Addr) (c : Nat), e = .returned (.slice A (0 : Nat) c) ∧ Below w.heap.size w w'
  reads : ∀ (w : World), Calls Try.prog 23 #[.pointer none] w fun e w' => ∃ (A : Option Addr) (c : Nat), e = .returned (.slice A (0 : Nat) c) ∧ Below w.heap.size w w'
  ranges : ∀ (w : World), Calls Try.prog 24 #[.pointer none] w fun e w' => ∃ (A : Option Addr) (c : Nat), e = .returned (.slice A (0 : Nat) c) ∧ Below w.heap.size w w'
  copy : ∀ (w : World), Calls Try.prog 14 #[.pointer none] w fun e w' => e = .returned (.pointer none) ∧ Below w.heap.size w w'
theorem two_cells {w : World} {g : Nat} {x0 x1 x2 : Value} {T : TypeId} (h : Blk w g #[x0, x1, x2] T) : w.cell? ⟨g, 1, none⟩ = some x1 ∧ w.cell? ⟨g, 2, none⟩ = some x2 := ⟨h.cell 1, h.cell 2⟩
set_option maxRecDepth 100000 in
set_option maxHeartbeats 4000000 in
theorem nil_law (hN : VwNil) (hF : ∀ w, Calls Try.prog 12 #[] w fun e w' => e = .returned (.bool true) ∧ Below w.heap.size w w') (kind : Int) (key value : ByteArray) (w : World) :
    Calls Try.prog 6 #[.agg #[.int .i64 kind, .string key, .string value]] w fun e w' => e = .returned (.bool true) ∧ Below w.heap.size w w' := by
  have hb1 : Below w.heap.size w (w.alloc (.cells #[.int .i64 kind, .string key, .string value] 35)) := (Below.refl _ _).alloc (Nat.le_refl _) _
  have HB00 := Lib.hid hb1
  have HB0 : Hid (Below (w.alloc (.cells #[.int .i64 kind, .string key, .string value] 35)).heap.size (w.alloc (.cells #[.int .i64 kind, .string key, .string value] 35)) (w.alloc (.cells #[.int .i64 kind, .string key, .string value] 35))) := Lib.hid (Below.refl _ _)
  have HK := Lib.hid (Blk.new_ w #[.int .i64 kind, .string key, .string value] 35)
  have HN := Lib.hid hN
  have HF := Lib.hid hF
  clear hN hF hb1
  go_enter Try.func6, Try.ntmps6
  go_wp2_with (first
    | (go_at_call 20; refine (HN.out.get _ key).mono ?_; rintro e w1 ⟨rfl, hb1⟩; have HB1 := Lib.hid (keeps HB0.out hb1); obtain ⟨c1, d1⟩ := two_cells (HK.out.below HB1.out); clear hb1)
    | (go_at_call 21; refine (HN.out.look _ key).mono ?_; rintro e w2 ⟨rfl, hb2⟩; have HB2 := Lib.hid (keeps HB1.out hb2); obtain ⟨c2, d2⟩ := two_cells (HK.out.below HB2.out); clear hb2)
    | (go_at_call 12; refine (HF.out _).mono ?_; rintro e w3 ⟨rfl, hb3⟩; have HB3 := Lib.hid (keeps HB2.out hb3); obtain ⟨c3, d3⟩ := two_cells (HK.out.below HB3.out); clear hb3)
    | (go_at_call 22; refine (HN.out.range _ key value).mono ?_; rintro e w4 ⟨A4, q4, rfl, hb4⟩; have HB4 := Lib.hid (keeps HB3.out hb4); obtain ⟨c4, d4⟩ := two_cells (HK.out.below HB4.out); clear hb4)
    | (go_at_call 16; refine (HN.out.set _ key value).mono ?_; rintro e w5 ⟨rfl, hb5⟩; have HB5 := Lib.hid (keeps HB4.out hb5); obtain ⟨c5, d5⟩ := two_cells (HK.out.below HB5.out); clear hb5)
    | (go_at_call 19; refine (HN.out.cut _ key).mono ?_; rintro e w6 ⟨rfl, hb6⟩; have HB6 := Lib.hid (keeps HB5.out hb6); obtain ⟨c6, d6⟩ := two_cells (HK.out.below HB6.out); clear hb6)
    | (go_at_call 17; refine (HN.out.writes _).mono ?_; rintro e w7 ⟨A7, q7, rfl, hb7⟩; have HB7 := Lib.hid (keeps HB6.out hb7); obtain ⟨c7, d7⟩ := two_cells (HK.out.below HB7.out); clear hb7)
    | (go_at_call 23; refine (HN.out.reads _).mono ?_; rintro e w8 ⟨A8, q8, rfl, hb8⟩; have HB8 := Lib.hid (keeps HB7.out hb8); obtain ⟨c8, d8⟩ := two_cells (HK.out.below HB8.out); clear hb8)
    | (go_at_call 24; refine (HN.out.ranges _).mono ?_; rintro e w9 ⟨A9, q9, rfl, hb9⟩; have HB9 := Lib.hid (keeps HB8.out hb9); obtain ⟨c9, d9⟩ := two_cells (HK.out.below HB9.out); clear hb9)
    | (go_at_call 14; refine (HN.out.copy _).mono ?_; rintro e w10 ⟨rfl, hb10⟩; have HB10 := Lib.hid (keeps HB9.out hb10); obtain ⟨c10, d10⟩ := two_cells (HK.out.below HB10.out); clear hb10))
  go_ret
  exact ⟨rfl, keeps HB00.out HB10.out⟩
end Go.Proofs.Ytdnenikplajmaaa.ViewN
