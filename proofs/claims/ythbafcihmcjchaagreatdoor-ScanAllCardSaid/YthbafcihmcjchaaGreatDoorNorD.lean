/- Words for a device in memory: which blocks a call may have changed ('Chg'); a block known whole ('Blk'); a device's own struct ('Core'). -/
import Derived.Test.YthbafcihmcjchaaGreatDoorByteS
import Derived.WalkKit
import Derived.Below
import Derived.Lib.Hide
import Derived.Laws.NewBlocks
namespace Go.Proofs.YthbafcihmcjchaaGreatDoor.NorD
set_option linter.unusedVariables false
set_option linter.unusedSimpArgs false
open Go.RowKit
open Go.Proofs.YthbafcihmcjchaaGreatDoor.Byte

/-- Of the blocks that were there only those of S may have changed. -/
structure Chg (S : Nat → Prop) (w w' : World) : Prop where
  os : w'.os = w.os
  tape : w'.tape = w.tape
  output : w'.output = w.output
  size : w.heap.size ≤ w'.heap.size
  block : ∀ k, k < w.heap.size → ¬ S k → w'.heap[k]? = w.heap[k]?
section
variable {S : Nat → Prop} {a b c w w' : World}
theorem Chg.refl (S : Nat → Prop) (w : World) : Chg S w w := ⟨rfl, rfl, rfl, Nat.le_refl _, fun _ _ _ => rfl⟩
theorem Chg.trans (h : Chg S a b) (k : Chg S b c) : Chg S a c :=
  ⟨k.os.trans h.os, k.tape.trans h.tape, k.output.trans h.output, Nat.le_trans h.size k.size, fun i hi hn => (k.block i (Nat.lt_of_lt_of_le hi h.size) hn).trans (h.block i hi hn)⟩
theorem Chg.mono {T : Nat → Prop} (h : Chg S a b) (hs : ∀ k, k < a.heap.size → S k → T k) : Chg T a b :=
  ⟨h.os, h.tape, h.output, h.size, fun i hi hn => h.block i hi (fun hk => hn (hs i hi hk))⟩
theorem Chg.drewN (h : Chg S a b) (n : Nat) : Chg S a (b.drewN n) := ⟨h.os, h.tape, h.output, h.size, h.block⟩
theorem Chg.drew (h : Chg S a b) : Chg S a b.drew := ⟨h.os, h.tape, h.output, h.size, h.block⟩
theorem Chg.alloc (h : Chg S a b) (o : Obj) : Chg S a (b.alloc o) :=
  h.trans ⟨rfl, rfl, rfl, by simp, fun k hk _ => Below.heap_alloc _ _ _ hk⟩
theorem Chg.setCell (h : Chg S a b) {p : Addr} (hp : S p.block ∨ a.heap.size ≤ p.block) (u : Value) : Chg S a (b.setCell p u) :=
  ⟨h.os, h.tape, h.output, by simpa [World.setCell] using h.size, fun k hk hn => (Below.heap_setCell _ _ _ _ (by
    rintro rfl
    rcases hp with hp | hp
    · exact hn hp
    · omega)).trans (h.block k hk hn)⟩
theorem Chg.own {d : Nat} (h : Chg (fun k => k = d) a b) (i : Nat) (u : Value) : Chg (fun k => k = d) a (b.setCell ⟨d, i, none⟩ u) := h.setCell (.inl rfl) u
theorem Chg.below (h : Chg S a b) {B : Nat} (hB : B ≤ a.heap.size) (hs : ∀ k, k < B → ¬ S k) : Below B a b :=
  ⟨h.os, h.tape, h.output, h.size, fun k hk => h.block k (Nat.lt_of_lt_of_le hk hB) (hs k hk)⟩
theorem Chg.of_below (h : Below a.heap.size a b) : Chg S a b := ⟨h.os, h.tape, h.output, h.size, fun k hk _ => h.block k hk⟩
theorem Chg.of_grown {row : Option Nat} (h : a.grownBy b row) (hs : ∀ k, row = some k → S k ∨ a.heap.size ≤ k) : Chg S a b :=
  ⟨h.os, h.tape, h.output, h.size, fun k hk hn => h.block k hk (fun e => by
    rcases hs k e.symm with h1 | h1
    · exact hn h1
    · omega)⟩
/-- Fresh blocks of the first call are not among those that were there. -/
theorem Chg.then_ {T : Nat → Prop} (h : Chg S a b) (k : Chg T b c) (ht : ∀ i, i < a.heap.size → T i → S i) : Chg S a c :=
  ⟨k.os.trans h.os, k.tape.trans h.tape, k.output.trans h.output, Nat.le_trans h.size k.size, fun i hi hn => (k.block i (Nat.lt_of_lt_of_le hi h.size) (fun hk => hn (ht i hi hk))).trans (h.block i hi hn)⟩
end

theorem Chg.cell {S : Nat → Prop} {w w' : World} (h : Chg S w w') {p : Addr} {v : Value} (hc : w.cell? p = some v) (hn : ¬ S p.block) : w'.cell? p = some v :=
  (World.cell?_of_block (w := w) (h.block p.block (World.block_lt_of_cell? w p hc) hn)).trans hc
theorem _root_.Go.Proofs.YthbafcihmcjchaaGreatDoor.Byte.Bs.chg {S : Nat → Prop} {w w' : World} {A : Option Addr} {n : Nat} {xs : List Int} (h : Bs w A n xs) (k : Chg S w w') (hA : ∀ b o, A = some ⟨b, o, none⟩ → ¬ S b) : Bs w' A n xs := by
  refine ⟨h.1, h.2.1, fun i hi => ?_⟩
  obtain ⟨b, o, e, hlt, hc⟩ := h.2.2 i hi
  exact ⟨b, o, e, Nat.lt_of_lt_of_le hlt k.size, k.cell hc (hA b o e)⟩
theorem _root_.Go.Proofs.YthbafcihmcjchaaGreatDoor.Byte.Ob.chg {S : Nat → Prop} {w w' : World} {base : Nat} {e : TypeId} {g n cap : Nat} {xs : List Int} (h : Ob w base e g n cap xs) (k : Chg S w w') (hg : ¬ S g) : Ob w' base e g n cap xs := by
  refine ⟨h.1, h.2.1, h.2.2.1, ?_⟩
  rcases h.2.2.2 with h' | ⟨g', cap', cur, h1, h2, h3, r⟩
  · exact .inl h'
  · refine .inr ⟨g', cap', cur, h1, h2, ?_, r⟩
    injection h1 with h1 _ _
    injection h1 with h1
    injection h1 with h1
    subst h1
    exact (k.block g (Array.getElem?_eq_some_iff.1 h3).1 hg).trans h3

theorem _root_.Go.Proofs.YthbafcihmcjchaaGreatDoor.Byte.Ob.base {w : World} {b0 b1 : Nat} {e : TypeId} {g n cap : Nat} {xs : List Int} (h : Ob w b1 e g n cap xs) (hb : b0 ≤ b1) : Ob w b0 e g n cap xs := by
  refine ⟨h.1, h.2.1, h.2.2.1, ?_⟩
  rcases h.2.2.2 with h' | ⟨g', cap', cur, h1, h2, r⟩
  · exact .inl h'
  · exact .inr ⟨g', cap', cur, h1, Nat.le_trans hb h2, r⟩

/-- Block g is just these cells. -/
def Blk (w : World) (g : Nat) (t : TypeId) (cs : Array Value) : Prop := w.heap[g]? = some (.cells cs t (0, 0))
section
variable {w w' : World} {g : Nat} {t : TypeId} {cs : Array Value}
theorem Blk.lt (h : Blk w g t cs) : g < w.heap.size := by
  rcases Nat.lt_or_ge g w.heap.size with hlt | hge
  · exact hlt
  · unfold Blk at h; rw [Array.getElem?_eq_none hge] at h; cases h
theorem Blk.cell (h : Blk w g t cs) (i : Nat) : w.cell? ⟨g, i, none⟩ = cs[i]? := cell_of_row w g i cs t (0, 0) h
theorem Blk.frozen (h : Blk w g t cs) (i : Nat) : w.frozen? ⟨g, i, none⟩ = false := by
  unfold Blk at h
  simp [World.frozen?, h]
theorem Blk.new (w : World) (t : TypeId) (cs : Array Value) : Blk (w.alloc (.cells cs t)) w.heap.size t cs := heap_alloc_new w _
theorem Blk.of_eq (h : Blk w g t cs) (e : w'.heap[g]? = w.heap[g]?) : Blk w' g t cs := e.trans h
theorem Blk.alloc (h : Blk w g t cs) (o : Obj) : Blk (w.alloc o) g t cs := (Below.heap_alloc w o g h.lt).trans h
theorem Blk.set_ (h : Blk w g t cs) (i : Nat) (u : Value) : Blk (w.setCell ⟨g, i, none⟩ u) g t (cs.setIfInBounds i u) := by
  unfold Blk at h ⊢
  simp [World.setCell, Array.getElem?_modify, h]
theorem Blk.far (h : Blk w g t cs) {p : Addr} (hp : g ≠ p.block) (u : Value) : Blk (w.setCell p u) g t cs := (Below.heap_setCell w p u g hp).trans h
theorem Blk.chg {S : Nat → Prop} (h : Blk w g t cs) (k : Chg S w w') (hg : ¬ S g) : Blk w' g t cs := (k.block g h.lt hg).trans h
theorem Blk.ne_ {g' : Nat} {t' : TypeId} {cs' : Array Value} (h : Blk w g t cs) (h' : Blk w g' t' cs') (hne : t ≠ t') : g ≠ g' := by
  rintro rfl
  unfold Blk at h h'
  rw [h] at h'
  injection h' with h'
  injection h' with _ ht
  exact hne ht
end

/-- A device's own struct. -/
def coreCells (n z : Nat) (sb scap mb : Nat) (on there : Bool) (left whole mask acts offs : Int) : Array Value :=
  #[.int .i64 n, .int .i64 z, .slice (some ⟨sb, 0, none⟩) n scap, .map (some mb), .bool on, .bool there, .int .i64 left, .int .i64 whole, .int .u8 mask, .int .i64 acts, .int .i64 offs]
def Core (w : World) (d : Nat) (n z : Nat) (sb scap mb : Nat) (on there : Bool) (left whole mask acts offs : Int) : Prop :=
  Blk w d 64 (coreCells n z sb scap mb on there left whole mask acts offs)
section
variable {w w' : World} {d n z sb scap mb : Nat} {on there : Bool} {left whole mask acts offs : Int}
theorem Core.lt (h : Core w d n z sb scap mb on there left whole mask acts offs) : d < w.heap.size := Blk.lt h
theorem Core.fr (h : Core w d n z sb scap mb on there left whole mask acts offs) (i : Nat) : w.frozen? ⟨d, i, none⟩ = false := Blk.frozen h i
theorem Core.c0 (h : Core w d n z sb scap mb on there left whole mask acts offs) : w.cell? ⟨d, 0, none⟩ = some (.int .i64 n) := Blk.cell h 0
theorem Core.c1 (h : Core w d n z sb scap mb on there left whole mask acts offs) : w.cell? ⟨d, 1, none⟩ = some (.int .i64 z) := Blk.cell h 1
theorem Core.c2 (h : Core w d n z sb scap mb on there left whole mask acts offs) : w.cell? ⟨d, 2, none⟩ = some (.slice (some ⟨sb, 0, none⟩) n scap) := Blk.cell h 2
theorem Core.c3 (h : Core w d n z sb scap mb on there left whole mask acts offs) : w.cell? ⟨d, 3, none⟩ = some (.map (some mb)) := Blk.cell h 3
theorem Core.c4 (h : Core w d n z sb scap mb on there left whole mask acts offs) : w.cell? ⟨d, 4, none⟩ = some (.bool on) := Blk.cell h 4
theorem Core.c5 (h : Core w d n z sb scap mb on there left whole mask acts offs) : w.cell? ⟨d, 5, none⟩ = some (.bool there) := Blk.cell h 5
theorem Core.c6 (h : Core w d n z sb scap mb on there left whole mask acts offs) : w.cell? ⟨d, 6, none⟩ = some (.int .i64 left) := Blk.cell h 6
theorem Core.c7 (h : Core w d n z sb scap mb on there left whole mask acts offs) : w.cell? ⟨d, 7, none⟩ = some (.int .i64 whole) := Blk.cell h 7
theorem Core.c8 (h : Core w d n z sb scap mb on there left whole mask acts offs) : w.cell? ⟨d, 8, none⟩ = some (.int .u8 mask) := Blk.cell h 8
theorem Core.c9 (h : Core w d n z sb scap mb on there left whole mask acts offs) : w.cell? ⟨d, 9, none⟩ = some (.int .i64 acts) := Blk.cell h 9
theorem Core.c10 (h : Core w d n z sb scap mb on there left whole mask acts offs) : w.cell? ⟨d, 10, none⟩ = some (.int .i64 offs) := Blk.cell h 10
theorem Core.set4 (h : Core w d n z sb scap mb on there left whole mask acts offs) (x : Bool) : Core (w.setCell ⟨d, 4, none⟩ (.bool x)) d n z sb scap mb x there left whole mask acts offs := Blk.set_ h 4 _
theorem Core.set5 (h : Core w d n z sb scap mb on there left whole mask acts offs) (x : Bool) : Core (w.setCell ⟨d, 5, none⟩ (.bool x)) d n z sb scap mb on x left whole mask acts offs := Blk.set_ h 5 _
theorem Core.set6 (h : Core w d n z sb scap mb on there left whole mask acts offs) (x : Int) : Core (w.setCell ⟨d, 6, none⟩ (.int .i64 x)) d n z sb scap mb on there x whole mask acts offs := Blk.set_ h 6 _
theorem Core.set7 (h : Core w d n z sb scap mb on there left whole mask acts offs) (x : Int) : Core (w.setCell ⟨d, 7, none⟩ (.int .i64 x)) d n z sb scap mb on there left x mask acts offs := Blk.set_ h 7 _
theorem Core.set8 (h : Core w d n z sb scap mb on there left whole mask acts offs) (x : Int) : Core (w.setCell ⟨d, 8, none⟩ (.int .u8 x)) d n z sb scap mb on there left whole x acts offs := Blk.set_ h 8 _
theorem Core.set9 (h : Core w d n z sb scap mb on there left whole mask acts offs) (x : Int) : Core (w.setCell ⟨d, 9, none⟩ (.int .i64 x)) d n z sb scap mb on there left whole mask x offs := Blk.set_ h 9 _
theorem Core.set10 (h : Core w d n z sb scap mb on there left whole mask acts offs) (x : Int) : Core (w.setCell ⟨d, 10, none⟩ (.int .i64 x)) d n z sb scap mb on there left whole mask acts x := Blk.set_ h 10 _
end
end Go.Proofs.YthbafcihmcjchaaGreatDoor.NorD
