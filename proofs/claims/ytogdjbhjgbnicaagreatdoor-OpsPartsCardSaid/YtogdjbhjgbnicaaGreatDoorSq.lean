import Derived.Test.YtogdjbhjgbnicaaGreatDoorOwn
import Derived.Lib.Hide
namespace Go.Proofs.YtogdjbhjgbnicaaGreatDoor
set_option linter.unusedVariables false
open Go.RowKit
open Own (Blk)
theorem hQ_ {p : Prop} (h : p) : Hid p := Lib.hid h
theorem bN_ (w : World) (o : Obj) : Below w.heap.size w (w.alloc o) := (Below.refl _ _).alloc (Nat.le_refl _) _
theorem bW_ {w : World} {o : Obj} : Below w.heap.size w (w.alloc o) := (Below.refl _ _).alloc (Nat.le_refl _) _
theorem bX_ {w : World} {g : Nat} {cs : Array Value} {T : TypeId} (_ : Blk (w.alloc (.cells cs T)) g cs T) : Below w.heap.size w (w.alloc (.cells cs T)) := bW_
theorem nW_ {w v : World} (h : Below w.heap.size w v) (o : Obj) : Below w.heap.size w (v.alloc o) := h.alloc h.size o
abbrev BL_ (w v : World) : Prop := Below w.heap.size w v
theorem fB_ {p q : Prop} (h : p ∧ q := by first | exact ⟨rfl, bW_⟩ | exact ⟨rfl, bW_.drew⟩ | exact ⟨rfl, (Below.refl _ _).drew.alloc (Nat.le_refl _) _⟩ | exact ⟨rfl, ((Below.refl _ _).drew.alloc (Nat.le_refl _) _).drew⟩) : p ∧ q := h
theorem pZ_ : (∀ (a : Act) (i : Tmp) (v : Value), a.put (some i) v = { a with tmps := a.tmps.setIfInBounds i v }) ∧ (∀ (a : Act) (v : Value), a.put none v = a) ∧ (∀ (l : List Value) (i : Nat) (v : Value), l.toArray.setIfInBounds i v = (l.set i v).toArray) ∧ (∀ (a : Value) (l : List Value) (v : Value), (a :: l).set 0 v = v :: l) ∧ ∀ (a : Value) (l : List Value) (i : Nat) (v : Value), (a :: l).set (i + 1) v = a :: l.set i v := ⟨fun _ _ _ => rfl, fun _ _ => rfl, fun _ _ _ => List.setIfInBounds_toArray _ _ _, fun _ _ _ => rfl, fun _ _ _ _ => rfl⟩
theorem cZ0 {w : World} {g : Nat} {T : TypeId} {a0 : Value} {r : List Value} (h : Blk w g (List.toArray (a0 :: r)) T) : w.cell? ⟨g, 0, none⟩ = some a0 := h.cell 0
theorem cZ1 {w : World} {g : Nat} {T : TypeId} {a0 a1 : Value} {r : List Value} (h : Blk w g (List.toArray (a0 :: a1 :: r)) T) : w.cell? ⟨g, 1, none⟩ = some a1 := h.cell 1
theorem cZ2 {w : World} {g : Nat} {T : TypeId} {a0 a1 a2 : Value} {r : List Value} (h : Blk w g (List.toArray (a0 :: a1 :: a2 :: r)) T) : w.cell? ⟨g, 2, none⟩ = some a2 := h.cell 2
theorem cZ3 {w : World} {g : Nat} {T : TypeId} {a0 a1 a2 a3 : Value} {r : List Value} (h : Blk w g (List.toArray (a0 :: a1 :: a2 :: a3 :: r)) T) : w.cell? ⟨g, 3, none⟩ = some a3 := h.cell 3
theorem cZ4 {w : World} {g : Nat} {T : TypeId} {a0 a1 a2 a3 a4 : Value} {r : List Value} (h : Blk w g (List.toArray (a0 :: a1 :: a2 :: a3 :: a4 :: r)) T) : w.cell? ⟨g, 4, none⟩ = some a4 := h.cell 4
theorem cZ5 {w : World} {g : Nat} {T : TypeId} {a0 a1 a2 a3 a4 a5 : Value} {r : List Value} (h : Blk w g (List.toArray (a0 :: a1 :: a2 :: a3 :: a4 :: a5 :: r)) T) : w.cell? ⟨g, 5, none⟩ = some a5 := h.cell 5
theorem cZ6 {w : World} {g : Nat} {T : TypeId} {a0 a1 a2 a3 a4 a5 a6 : Value} {r : List Value} (h : Blk w g (List.toArray (a0 :: a1 :: a2 :: a3 :: a4 :: a5 :: a6 :: r)) T) : w.cell? ⟨g, 6, none⟩ = some a6 := h.cell 6
theorem cC2 {w : World} {g : Nat} {T : TypeId} {a0 a1 : Value} {r : List Value} (h : Blk w g (List.toArray (a0 :: a1 :: r)) T) : w.cell? ⟨g, 0, none⟩ = some a0 ∧ w.cell? ⟨g, 1, none⟩ = some a1 := ⟨h.cell 0, h.cell 1⟩
theorem cC3 {w : World} {g : Nat} {T : TypeId} {a0 a1 a2 : Value} {r : List Value} (h : Blk w g (List.toArray (a0 :: a1 :: a2 :: r)) T) : w.cell? ⟨g, 0, none⟩ = some a0 ∧ w.cell? ⟨g, 1, none⟩ = some a1 ∧ w.cell? ⟨g, 2, none⟩ = some a2 := ⟨h.cell 0, h.cell 1, h.cell 2⟩
theorem cC4 {w : World} {g : Nat} {T : TypeId} {a0 a1 a2 a3 : Value} {r : List Value} (h : Blk w g (List.toArray (a0 :: a1 :: a2 :: a3 :: r)) T) : w.cell? ⟨g, 0, none⟩ = some a0 ∧ w.cell? ⟨g, 1, none⟩ = some a1 ∧ w.cell? ⟨g, 2, none⟩ = some a2 ∧ w.cell? ⟨g, 3, none⟩ = some a3 := ⟨h.cell 0, h.cell 1, h.cell 2, h.cell 3⟩
theorem cC7 {w : World} {g : Nat} {T : TypeId} {a0 a1 a2 a3 a4 a5 a6 : Value} {r : List Value} (h : Blk w g (List.toArray (a0 :: a1 :: a2 :: a3 :: a4 :: a5 :: a6 :: r)) T) : w.cell? ⟨g, 0, none⟩ = some a0 ∧ w.cell? ⟨g, 1, none⟩ = some a1 ∧ w.cell? ⟨g, 2, none⟩ = some a2 ∧ w.cell? ⟨g, 3, none⟩ = some a3 ∧ w.cell? ⟨g, 4, none⟩ = some a4 ∧ w.cell? ⟨g, 5, none⟩ = some a5 ∧ w.cell? ⟨g, 6, none⟩ = some a6 := ⟨h.cell 0, h.cell 1, h.cell 2, h.cell 3, h.cell 4, h.cell 5, h.cell 6⟩
end Go.Proofs.YtogdjbhjgbnicaaGreatDoor
