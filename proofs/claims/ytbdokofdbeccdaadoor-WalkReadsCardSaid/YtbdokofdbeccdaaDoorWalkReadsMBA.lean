/- Merged: Chg TreeH ViewL ViewB ViewD ViewE ViewP. -/
import Derived.Test.YtbdokofdbeccdaaDoorLst
import Derived.Test.YtbdokofdbeccdaaDoorTreeG
import Derived.Test.YtbdokofdbeccdaaDoorWalkReadsMAP
import Derived.Deep.MidRow
/- Which blocks a call may have changed (Chg); slices that read as a list stay. -/
namespace Go.Proofs.YtbdokofdbeccdaaDoor.Chg
set_option linter.unusedVariables false
set_option linter.unusedSimpArgs false
open Go.RowKit
open Go.Proofs.YtbdokofdbeccdaaDoor.Byte Go.Proofs.YtbdokofdbeccdaaDoor.Own Go.Proofs.YtbdokofdbeccdaaDoor.Rw Go.Proofs.YtbdokofdbeccdaaDoor.Lst

/-- Of the blocks that were there only those of S may have changed. -/
structure Chg (S : Nat → Prop) (w w' : World) : Prop where
  os : w'.os = w.os
  tape : w'.tape = w.tape
  output : w'.output = w.output
  size : w.heap.size ≤ w'.heap.size
  block : ∀ k, k < w.heap.size → ¬ S k → w'.heap[k]? = w.heap[k]?
section
variable {S : Nat → Prop} {a b c w w' : World}
theorem Chg.refl (S : Nat → Prop) (w : World) : Chg S w w := ⟨rfl, rfl, rfl, Nat.le_refl _, fun _ _ _ => rfl⟩
theorem Chg.trans (h : Chg S a b) (k : Chg S b c) : Chg S a c :=
  ⟨k.os.trans h.os, k.tape.trans h.tape, k.output.trans h.output, Nat.le_trans h.size k.size, fun i hi hn => (k.block i (Nat.lt_of_lt_of_le hi h.size) hn).trans (h.block i hi hn)⟩
theorem Chg.mono {T : Nat → Prop} (h : Chg S a b) (hs : ∀ k, k < a.heap.size → S k → T k) : Chg T a b :=
  ⟨h.os, h.tape, h.output, h.size, fun i hi hn => h.block i hi (fun hk => hn (hs i hi hk))⟩
theorem Chg.drewN (h : Chg S a b) (n : Nat) : Chg S a (b.drewN n) := ⟨h.os, h.tape, h.output, h.size, h.block⟩
theorem Chg.drew (h : Chg S a b) : Chg S a b.drew := ⟨h.os, h.tape, h.output, h.size, h.block⟩
theorem Chg.alloc (h : Chg S a b) (o : Obj) : Chg S a (b.alloc o) :=
  h.trans ⟨rfl, rfl, rfl, by simp, fun k hk _ => Below.heap_alloc _ _ _ hk⟩
theorem Chg.setCell (h : Chg S a b) {p : Addr} (hp : S p.block ∨ a.heap.size ≤ p.block) (u : Value) : Chg S a (b.setCell p u) :=
  ⟨h.os, h.tape, h.output, by simpa [World.setCell] using h.size, fun k hk hn => (Below.heap_setCell _ _ _ _ (by
    rintro rfl
    rcases hp with hp | hp
    · exact hn hp
    · omega)).trans (h.block k hk hn)⟩
theorem Chg.own {d : Nat} (h : Chg (fun k => k = d) a b) (i : Nat) (u : Value) : Chg (fun k => k = d) a (b.setCell ⟨d, i, none⟩ u) := h.setCell (.inl rfl) u
theorem Chg.below (h : Chg S a b) {B : Nat} (hB : B ≤ a.heap.size) (hs : ∀ k, k < B → ¬ S k) : Below B a b :=
  ⟨h.os, h.tape, h.output, h.size, fun k hk => h.block k (Nat.lt_of_lt_of_le hk hB) (hs k hk)⟩
theorem Chg.of_below (h : Below a.heap.size a b) : Chg S a b := ⟨h.os, h.tape, h.output, h.size, fun k hk _ => h.block k hk⟩
theorem Chg.of_grown {row : Option Nat} (h : a.grownBy b row) (hs : ∀ k, row = some k → S k ∨ a.heap.size ≤ k) : Chg S a b :=
  ⟨h.os, h.tape, h.output, h.size, fun k hk hn => h.block k hk (fun e => by
    rcases hs k e.symm with h1 | h1
    · exact hn h1
    · omega)⟩
/-- Fresh blocks of the first call are not among those that were there. -/
theorem Chg.then_ {T : Nat → Prop} (h : Chg S a b) (k : Chg T b c) (ht : ∀ i, i < a.heap.size → T i → S i) : Chg S a c :=
  ⟨k.os.trans h.os, k.tape.trans h.tape, k.output.trans h.output, Nat.le_trans h.size k.size, fun i hi hn => (k.block i (Nat.lt_of_lt_of_le hi h.size) (fun hk => hn (ht i hi hk))).trans (h.block i hi hn)⟩
end

theorem Chg.cell {S : Nat → Prop} {w w' : World} (h : Chg S w w') {p : Addr} {v : Value} (hc : w.cell? p = some v) (hn : ¬ S p.block) : w'.cell? p = some v :=
  (World.cell?_of_block (w := w) (h.block p.block (World.block_lt_of_cell? w p hc) hn)).trans hc
theorem Sl.chg {α : Type} {e : Enc α} {S : Nat → Prop} {w w' : World} {A : Option Addr} {n : Nat} {L : List α} (h : Sl e w A n L) (k : Chg S w w') (hA : ∀ b o, A = some ⟨b, o, none⟩ → ¬ S b) : Sl e w' A n L := by
  refine ⟨h.1, fun j x hj => ?_⟩
  obtain ⟨b, o, e1, hlt, hc⟩ := h.2 j x hj
  exact ⟨b, o, e1, Nat.lt_of_lt_of_le hlt k.size, fun i v hv => k.cell (p := ⟨b, o + j * e.size + i, none⟩) (hc i v hv) (hA b o e1)⟩
/-- A slice does not lie in these blocks. -/
def Far (S : Nat → Prop) (A : Option Addr) : Prop := ∀ b o, A = some ⟨b, o, none⟩ → ¬ S b
/-- What was there is not older than the call, or was one of these. -/
def Grow (w : World) (S S' : Nat → Prop) : Prop := ∀ b, S' b → S b ∨ w.heap.size ≤ b
theorem Grow.refl (w : World) (S : Nat → Prop) : Grow w S S := fun b h => .inl h
theorem Grow.trans {w w' : World} {S S' T : Nat → Prop} (h : Grow w S S') (k : Grow w' S' T) (hs : w.heap.size ≤ w'.heap.size) : Grow w S T := fun b hb => by
  rcases k b hb with h1 | h1
  · exact h b h1
  · exact .inr (Nat.le_trans hs h1)
theorem Far.grow {w : World} {S S' : Nat → Prop} {A : Option Addr} (h : Far S A) (hg : Grow w S S') (hA : ∀ b o, A = some ⟨b, o, none⟩ → b < w.heap.size) : Far S' A := fun b o e hb => by
  rcases hg b hb with h1 | h1
  · exact h b o e h1
  · have := hA b o e
    omega
theorem Far.new {S : Nat → Prop} {A : Option Addr} {n : Nat} (hS : ∀ b, S b → b < n) (hA : ∀ b o, A = some ⟨b, o, none⟩ → n ≤ b) : Far S A := fun b o e hb => by
  have h1 := hS b hb
  have h2 := hA b o e
  omega
end Go.Proofs.YtbdokofdbeccdaaDoor.Chg

/- What layers above layer 10 use of the project's tree, each by itself. -/
namespace Go.Proofs.YtbdokofdbeccdaaDoor.TreeH
set_option linter.unusedVariables false
set_option linter.unusedSimpArgs false
open Go.RowKit
open Go.Proofs.YtbdokofdbeccdaaDoor.Byte Go.Proofs.YtbdokofdbeccdaaDoor.KeysM Go.Proofs.YtbdokofdbeccdaaDoor.TreeM Go.Proofs.YtbdokofdbeccdaaDoor.TreeB Go.Proofs.YtbdokofdbeccdaaDoor.TreeD Go.Proofs.YtbdokofdbeccdaaDoor.TreeE Go.Proofs.YtbdokofdbeccdaaDoor.TreeF Go.Proofs.YtbdokofdbeccdaaDoor.TreeG Go.Proofs.YtbdokofdbeccdaaDoor.Own Go.Proofs.YtbdokofdbeccdaaDoor.Rw Go.Proofs.YtbdokofdbeccdaaDoor.Lst Go.Proofs.YtbdokofdbeccdaaDoor.TreeR Go.Proofs.YtbdokofdbeccdaaDoor.TreeS Go.Proofs.YtbdokofdbeccdaaDoor.TreeL Go.Proofs.YtbdokofdbeccdaaDoor.Chg
variable {w w' : World} {v : Value} {L : List Pr} {h : Nat}

theorem tkeep (hr : TRep w v L h) (hk : Kept w w') : TRep w' v L h := by
  obtain ⟨b, A, t, rfl, hv, rest⟩ := hr
  exact ⟨b, A, t, rfl, ⟨hk _ _ _ _ (.inl rfl) hv.1, hv.2.keep hk⟩, rest⟩
theorem trise (hr : TRep w v L h) : Rise L := by
  obtain ⟨b, A, t, rfl, hv, rfl, h2, _⟩ := hr
  exact h2
theorem tform (hr : TRep w v L h) : ∃ b, v = .pointer (some ⟨b, 0, none⟩) ∧ b < w.heap.size := by
  obtain ⟨b, A, t, rfl, hv, _⟩ := hr
  exact ⟨b, rfl, hv.1.lt⟩
theorem tset (k x : ByteArray) (hr : TRep w v L h) (hl : L.length ≤ 50000) : Calls Tryd.prog 45 #[v, .string k, .string x] w fun e w' => ∃ v' h', e = .returned v' ∧ TRep w' v' (putL k x L) h' ∧ Below w.heap.size w w' := by
  obtain ⟨b, A, t, rfl, hv, rfl, h2, h3, rfl⟩ := hr
  rw [Tt.sz_ino] at hl
  refine (setm_calls b A t k x w hv (by omega)).mono ?_
  rintro e w' ⟨b', A', rfl, hv', hb'⟩
  exact ⟨_, _, rfl, ⟨b', A', _, rfl, hv', Tt.ino_set t k x h2, rise_put h2 k x, (Tt.set_avl t _ h3).1, rfl⟩, hb'⟩
theorem tcut (k : ByteArray) (hr : TRep w v L h) (hl : L.length ≤ 50000) : Calls Tryd.prog 50 #[v, .string k] w fun e w' => ∃ v' h', e = .returned v' ∧ TRep w' v' (cutL k L) h' ∧ Below w.heap.size w w' := by
  obtain ⟨b, A, t, rfl, hv, rfl, h2, h3, rfl⟩ := hr
  rw [Tt.sz_ino] at hl
  cases hG : getL k t.ino with
  | none =>
    refine (cutm_no b A t k w hv h2 hG).mono ?_
    rintro e w' ⟨b', A', rfl, hv', hb'⟩
    exact ⟨_, _, rfl, ⟨b', A', _, rfl, hv', (cut_none hG).symm, rise_cut h2 k, h3, rfl⟩, hb'⟩
  | some p =>
    refine (cutm_yes b A t k w hv h2 (by omega) p hG (has_get hG)).mono ?_
    rintro e w' ⟨b', A', rfl, hv', hb'⟩
    exact ⟨_, _, rfl, ⟨b', A', _, rfl, hv', Tt.ino_cut t k h2, rise_cut h2 k, (Tt.cut_avl t k h3).1, rfl⟩, hb'⟩
theorem tget (k : ByteArray) (hr : TRep w v L h) (hl : L.length ≤ 50000) : Calls Tryd.prog 51 #[v, .string k] w fun e w' => e = .returned (GotV (getL k L)) ∧ w = w' := by
  obtain ⟨b, A, t, rfl, hv, rfl, h2, h3, rfl⟩ := hr
  exact TreeQ.get_calls b A t k w hv h2 _ rfl
theorem tlen (hr : TRep w v L h) (hl : L.length ≤ 50000) : Calls Tryd.prog 61 #[v] w fun e w' => e = .returned (.int .i64 (L.length : Nat)) ∧ w = w' := by
  obtain ⟨b, A, t, rfl, hv, rfl, h2, h3, rfl⟩ := hr
  exact len_calls b A t w hv _ (Tt.sz_ino t).symm
theorem trange (x y : ByteArray) (hr : TRep w v L h) (hl : L.length ≤ 50000) : Calls Tryd.prog 53 #[v, .string x, .string y] w (Made (rangeL x y L) w) := by
  obtain ⟨b, A, t, rfl, hv, rfl, h2, h3, rfl⟩ := hr
  rw [Tt.sz_ino] at hl
  exact range_made b A t x y w hv h2 (by omega)
end Go.Proofs.YtbdokofdbeccdaaDoor.TreeH

/- Layer 14's laws, over what the project's view is asked (Vw): how it stands, what its methods do; fixed. -/
namespace Go.Proofs.YtbdokofdbeccdaaDoor.ViewL
set_option linter.unusedVariables false
set_option linter.unusedSimpArgs false
open Go.RowKit
open Go.Proofs.YtbdokofdbeccdaaDoor.Byte Go.Proofs.YtbdokofdbeccdaaDoor.KeysM Go.Proofs.YtbdokofdbeccdaaDoor.TreeM Go.Proofs.YtbdokofdbeccdaaDoor.ViewM Go.Proofs.YtbdokofdbeccdaaDoor.Own Go.Proofs.YtbdokofdbeccdaaDoor.Rw Go.Proofs.YtbdokofdbeccdaaDoor.Lst Go.Proofs.YtbdokofdbeccdaaDoor.Chg Go.Proofs.YtbdokofdbeccdaaDoor.TreeR Go.Proofs.YtbdokofdbeccdaaDoor.TreeS Go.Proofs.YtbdokofdbeccdaaDoor.TreeL Go.Proofs.YtbdokofdbeccdaaDoor.TreeG Go.Proofs.YtbdokofdbeccdaaDoor.TreeH Go.Proofs.YtbdokofdbeccdaaDoor.Ho Go.Proofs.YtbdokofdbeccdaaDoor.ViewR Go.Proofs.YtbdokofdbeccdaaDoor.ViewG Go.Proofs.YtbdokofdbeccdaaDoor.ViewS

/-- What a slice holds does not lie in these blocks. -/
def Off (S : Nat → Prop) (h : Sh) : Prop := 0 < h.n → ∀ b o, h.a = some ⟨b, o, none⟩ → ¬ S b
theorem sl_lt {α : Type} {e : Enc α} {w : World} {A : Option Addr} {n : Nat} {L : List α} (h : Sl e w A n L) (hn : 0 < n) : ∃ b o, A = some ⟨b, o, none⟩ ∧ b < w.heap.size := by
  obtain ⟨x, b, o, _, h2, h3, _⟩ := h.get 0 hn
  exact ⟨b, o, h2, h3⟩
theorem ss_chg {α : Type} {e : Enc α} {S : Nat → Prop} {w w' : World} {h : Sh} {L : List α} (s : Ss e w h L) (k : Chg S w w') (ho : Off S h) : Ss e w' h L := by
  refine ⟨?_, s.2⟩
  by_cases hn : 0 < h.n
  · exact Sl.chg s.1 k (ho hn)
  · have h0 : h.n = 0 := by omega
    have hl : L = [] := List.eq_nil_of_length_eq_zero (by rw [s.1.1, h0])
    rw [hl, h0]
    exact Sl.nil_ _ _ _
theorem Off.grow {α : Type} {e : Enc α} {S S' : Nat → Prop} {w : World} {h : Sh} {L : List α} (ho : Off S h) (s : Ss e w h L) (g : Grow w S S') : Off S' h := fun hn b o e hb => by
  obtain ⟨b', o', e', hlt⟩ := sl_lt s.1 hn
  rw [e] at e'
  injection e' with e'
  injection e' with e1 _
  rcases g b hb with h1 | h1
  · exact ho hn b o e h1
  · omega
theorem Off.new {S : Nat → Prop} {w : World} {h : Sh} (hS : ∀ b, S b → b < w.heap.size) (hA : NewA w h) : Off S h := fun _ b o e hb => by
  have h1 := hS b hb
  have h2 := hA b o e
  omega
theorem Off.old {α : Type} {e : Enc α} {S : Nat → Prop} {w : World} {h : Sh} {L : List α} (s : Ss e w h L) (hS : ∀ b, S b → w.heap.size ≤ b) : Off S h := fun hn b o e hb => by
  obtain ⟨b', o', e', hlt⟩ := sl_lt s.1 hn
  rw [e] at e'
  injection e' with e'
  injection e' with e1 _
  have := hS b hb
  omega
theorem Off.or {S : Nat → Prop} {α : Type} {e : Enc α} {w : World} {h : Sh} {L : List α} {r : Nat} (ho : Off S h) (s : Ss e w h L) (hr : w.heap.size ≤ r) : Off (fun k => S k ∨ k = r) h := fun hn b o e hb => by
  obtain ⟨b', o', e', hlt⟩ := sl_lt s.1 hn
  rw [e] at e'
  injection e' with e'
  injection e' with e1 _
  rcases hb with hb | hb
  · exact ho hn b o e hb
  · omega
/-- The document's view by value, away from these blocks. -/
structure DvF (w : World) (s : Vs) (b wt rd rg : Sh) (S : Nat → Prop) : Prop where
  dv : Dv w s b wt rd rg
  fb : Off S b
  fw : Off S wt
  fr : Off S rd
  fg : Off S rg
theorem DvF.chg {w w' : World} {s : Vs} {b wt rd rg : Sh} {S : Nat → Prop} (d : DvF w s b wt rd rg S) (k : Chg S w w') : Dv w' s b wt rd rg :=
  ⟨ss_chg d.dv.base k d.fb, ss_chg d.dv.wr k d.fw, ss_chg d.dv.rd k d.fr, ss_chg d.dv.rg k d.fg⟩
theorem DvF.grow {w : World} {s : Vs} {b wt rd rg : Sh} {S S' : Nat → Prop} (d : DvF w s b wt rd rg S) (g : Grow w S S') : DvF w s b wt rd rg S' :=
  ⟨d.dv, d.fb.grow d.dv.base g, d.fw.grow d.dv.wr g, d.fr.grow d.dv.rd g, d.fg.grow d.dv.rg g⟩
theorem DvF.next {w w' : World} {s : Vs} {b wt rd rg : Sh} {S S' : Nat → Prop} (d : DvF w s b wt rd rg S) (k : Chg S w w') (g : Grow w S S') : DvF w' s b wt rd rg S' :=
  ⟨d.chg k, (d.grow g).fb, (d.grow g).fw, (d.grow g).fr, (d.grow g).fg⟩
theorem DvF.below {w w' : World} {s : Vs} {b wt rd rg : Sh} {S : Nat → Prop} (d : DvF w s b wt rd rg S) (k : Below w.heap.size w w') : DvF w' s b wt rd rg S := ⟨d.dv.below k, d.fb, d.fw, d.fr, d.fg⟩

/-- A view as it may be gone through. -/
structure Lim (s : Vs) : Prop where
  base : s.base.length ≤ 100
  rd : s.rd.length ≤ 1000
  rg : s.rg.length ≤ 1000
/-- Behind a view's method: which blocks may have changed, which are its own and which it leans on from then on. -/
structure Stp (S D S' D' : Nat → Prop) (w w' : World) : Prop where
  chg : Chg S w w'
  kept : Kept w w'
  own : Grow w S S'
  dep : Grow w D D'
/-- What the project's view is asked: 'Rep w v s S D': v is a view that stands as s; only its own blocks S are written by its methods; it leans on the blocks D (and on nodes of trees). -/
structure Stays (Rep : World → Value → Vs → (Nat → Prop) → (Nat → Prop) → Prop) : Prop where
  stay : ∀ {w w' v s S D} {T : Nat → Prop}, Rep w v s S D → Chg T w w' → (∀ b, T b → ¬ D b) → Kept w w' → Rep w' v s S D
  ok : ∀ {w v s S D}, Rep w v s S D → s.Ok
  lt : ∀ {w v s S D}, Rep w v s S D → ∀ b, D b → b < w.heap.size
  sub : ∀ {w v s S D}, Rep w v s S D → ∀ b, S b → D b
variable {Rep : World → Value → Vs → (Nat → Prop) → (Nat → Prop) → Prop}
theorem Stays.below (h : Stays Rep) {w w' : World} {v : Value} {s : Vs} {S D : Nat → Prop} (r : Rep w v s S D) (hb : Below w.heap.size w w') : Rep w' v s S D :=
  h.stay (T := fun _ => False) r (Chg.of_below hb) (fun _ h => h.elim) (Kept.of_below hb)
def NewOk (Rep : World → Value → Vs → (Nat → Prop) → (Nat → Prop) → Prop) : Prop := ∀ ⦃w t L h⦄, TRep w t L h → L.length ≤ 100 → Calls Tryd.prog 6 #[t] w fun e w' => ∃ v S D, e = .returned v ∧ Rep w' v ⟨L, [], [], []⟩ S D ∧ (∀ b, S b → w.heap.size ≤ b) ∧ (∀ b, D b → w.heap.size ≤ b) ∧ Below w.heap.size w w'
def GetOk (Rep : World → Value → Vs → (Nat → Prop) → (Nat → Prop) → Prop) : Prop := ∀ ⦃w v s S D⦄ (k : ByteArray), Rep w v s S D → Lim s → k.size ≤ 200000000000000 → Calls Tryd.prog 28 #[v, .string k] w fun e w' => ∃ S' D', e = .returned (GotV (getL k s.shown)) ∧ Rep w' v (s.read k) S' D' ∧ Stp S D S' D' w w'
def RangeOk (Rep : World → Value → Vs → (Nat → Prop) → (Nat → Prop) → Prop) : Prop := ∀ ⦃w v s S D⦄ (x y : ByteArray), Rep w v s S D → Lim s → x.size ≤ 200000000000000 → y.size ≤ 200000000000000 → Calls Tryd.prog 31 #[v, .string x, .string y] w fun e w' => ∃ (r : Sh) (S' D' : Nat → Prop), e = .returned (.slice r.a r.n r.c) ∧ Sl prE w' r.a r.n (s.rangeOf x y) ∧ (0 < r.n → NewA w r) ∧ Rep w' v (s.ranged x y) S' D' ∧ Stp S D S' D' w w'
def SetOk (Rep : World → Value → Vs → (Nat → Prop) → (Nat → Prop) → Prop) : Prop := ∀ ⦃w v s S D⦄ (k x : ByteArray), Rep w v s S D → Lim s → k.size ≤ 200000000000000 → x.size ≤ 200000000000000 → Calls Tryd.prog 24 #[v, .string k, .string x] w fun e w' => ∃ S' D', e = .returned (.bool (!fullW s.wr ⟨k, x, false⟩)) ∧ Rep w' v (s.write ⟨k, x, false⟩) S' D' ∧ Stp S D S' D' w w'
def CutOk (Rep : World → Value → Vs → (Nat → Prop) → (Nat → Prop) → Prop) : Prop := ∀ ⦃w v s S D⦄ (k : ByteArray), Rep w v s S D → Lim s → k.size ≤ 200000000000000 → Calls Tryd.prog 30 #[v, .string k] w fun e w' => ∃ S' D', e = .returned (.bool (!fullW s.wr ⟨k, ⟨#[]⟩, true⟩)) ∧ Rep w' v (s.write ⟨k, ⟨#[]⟩, true⟩) S' D' ∧ Stp S D S' D' w w'
def ReadsOk (Rep : World → Value → Vs → (Nat → Prop) → (Nat → Prop) → Prop) : Prop := ∀ ⦃w v s S D⦄, Rep w v s S D → Lim s → Calls Tryd.prog 18 #[v] w fun e w' => ∃ r : Sh, e = .returned (.slice r.a r.n r.c) ∧ Sl rdE w' r.a r.n s.rd ∧ Below w.heap.size w w'
theorem below_chg {B : Nat} {w w1 w2 : World} {S : Nat → Prop} (h : Below B w w1) (k : Chg S w1 w2) (hS : ∀ b, S b → B ≤ b) (hB : B ≤ w.heap.size) : Below B w w2 :=
  ⟨k.os.trans h.os, k.tape.trans h.tape, k.output.trans h.output, Nat.le_trans h.size k.size, fun i hi => (k.block i (by have := h.size; omega) (fun hk => by have := hS i hk; omega)).trans (h.block i hi)⟩
/-! ### the chapter's example -/
def eA : Pr := ⟨⟨#[97]⟩, ⟨#[49]⟩, false⟩
def eG : Pr := ⟨⟨#[97]⟩, ⟨#[]⟩, true⟩
def eB : Pr := ⟨⟨#[98]⟩, ⟨#[50]⟩, false⟩
def x0 : Vs := ⟨[eA], [], [], []⟩
def x1 : Vs := ⟨[eA], [eG], [], []⟩
def x2 : Vs := ⟨[eA], [eG, eB], [], []⟩
def x3 : Vs := ⟨[eA], [eG, eB], [], [(⟨#[]⟩, ⟨#[122]⟩)]⟩
theorem y0 : putL ⟨#[97]⟩ ⟨#[49]⟩ [] = [eA] := by decide +kernel
theorem y1 : writeW [eA] [] eG = [eG] ∧ fullW [] eG = false := by decide +kernel
theorem y2 : writeW [eA] [eG] eB = [eG, eB] ∧ fullW [eG] eB = false := by decide +kernel
end Go.Proofs.YtbdokofdbeccdaaDoor.ViewL

/- Layer 14's laws: the front of the operations that is gone through; a base and its row. -/
namespace Go.Proofs.YtbdokofdbeccdaaDoor.ViewB
set_option linter.unusedVariables false
set_option linter.unusedSimpArgs false
open Go.RowKit
open Go.Proofs.YtbdokofdbeccdaaDoor.Byte Go.Proofs.YtbdokofdbeccdaaDoor.KeysM Go.Proofs.YtbdokofdbeccdaaDoor.TreeM Go.Proofs.YtbdokofdbeccdaaDoor.ViewM Go.Proofs.YtbdokofdbeccdaaDoor.Own Go.Proofs.YtbdokofdbeccdaaDoor.Rw Go.Proofs.YtbdokofdbeccdaaDoor.Lst Go.Proofs.YtbdokofdbeccdaaDoor.Chg Go.Proofs.YtbdokofdbeccdaaDoor.TreeR Go.Proofs.YtbdokofdbeccdaaDoor.TreeS Go.Proofs.YtbdokofdbeccdaaDoor.TreeL Go.Proofs.YtbdokofdbeccdaaDoor.TreeG Go.Proofs.YtbdokofdbeccdaaDoor.TreeH Go.Proofs.YtbdokofdbeccdaaDoor.Ho Go.Proofs.YtbdokofdbeccdaaDoor.ViewR Go.Proofs.YtbdokofdbeccdaaDoor.ViewG Go.Proofs.YtbdokofdbeccdaaDoor.ViewS Go.Proofs.YtbdokofdbeccdaaDoor.ViewL

structure Op14 where
  kind : Int
  key : ByteArray
  value : ByteArray
deriving Inhabited
/-- An operation that may be gone through. -/
def okOq (p : Op14) : Prop := p.key.size ≤ 100 ∧ p.value.size ≤ 100
/-- The call answers with a front of the operations, all of which may be gone through. -/
def FrontQ (A : Option Addr) (n c : Nat) (L : List Op14) (w : World) (e : Ending) (w' : World) : Prop := ∃ m, e = .returned (.slice A m c) ∧ m ≤ n ∧ m ≤ 200 ∧ (∀ p ∈ L.take m, okOq p) ∧ Below w.heap.size w w'
end Go.Proofs.YtbdokofdbeccdaaDoor.ViewB

/- Layer 14's laws: an operation of the project's view, and of the document's: both answer alike, and stand alike behind it. -/
namespace Go.Proofs.YtbdokofdbeccdaaDoor.ViewD
set_option linter.unusedVariables false
set_option linter.unusedSimpArgs false
open Go.RowKit
open Go.Proofs.YtbdokofdbeccdaaDoor.Byte Go.Proofs.YtbdokofdbeccdaaDoor.KeysM Go.Proofs.YtbdokofdbeccdaaDoor.TreeM Go.Proofs.YtbdokofdbeccdaaDoor.ViewM Go.Proofs.YtbdokofdbeccdaaDoor.Own Go.Proofs.YtbdokofdbeccdaaDoor.Rw Go.Proofs.YtbdokofdbeccdaaDoor.Lst Go.Proofs.YtbdokofdbeccdaaDoor.Chg Go.Proofs.YtbdokofdbeccdaaDoor.TreeR Go.Proofs.YtbdokofdbeccdaaDoor.TreeS Go.Proofs.YtbdokofdbeccdaaDoor.TreeL Go.Proofs.YtbdokofdbeccdaaDoor.TreeG Go.Proofs.YtbdokofdbeccdaaDoor.TreeH Go.Proofs.YtbdokofdbeccdaaDoor.Ho Go.Proofs.YtbdokofdbeccdaaDoor.ViewR Go.Proofs.YtbdokofdbeccdaaDoor.ViewG Go.Proofs.YtbdokofdbeccdaaDoor.ViewS Go.Proofs.YtbdokofdbeccdaaDoor.ViewL Go.Proofs.YtbdokofdbeccdaaDoor.ViewB
variable {Rep : World → Value → Vs → (Nat → Prop) → (Nat → Prop) → Prop}

/-- How both stand behind an operation. -/
def doS (s : Vs) (o : Op14) : Vs := if o.kind = 0 then s.read o.key else if o.kind = 1 then s else if o.kind = 2 then s.ranged o.key o.value else if o.kind = 3 then s.write ⟨o.key, o.value, false⟩ else if o.kind = 4 then s.write ⟨o.key, ⟨#[]⟩, true⟩ else s
theorem Kept.trans {a b c : World} (h : Kept a b) (k : Kept b c) : Kept a c := fun q cs U fr hU hb => k q cs U fr hU (h q cs U fr hU hb)
theorem kept_set {W : World} {r : Nat} {cs : Array Value} {T : TypeId} (h : Blk W r cs T) (hne : 60 ≠ T ∧ 113 ≠ T) (i : Nat) (u : Value) : Kept W (W.setCell ⟨r, i, none⟩ u) := fun q cs' U fr hU hb => by
  by_cases e : q = r
  · subst e
    unfold Blk at h
    rw [h] at hb
    injection hb with hb
    injection hb with _ hT _
    subst hT
    rcases hU with h1 | h1
    · exact absurd h1.symm hne.1
    · exact absurd h1.symm hne.2
  · exact (Below.heap_setCell W ⟨r, i, none⟩ u q e).trans hb
theorem blk_chg {S : Nat → Prop} {w w' : World} {g : Nat} {cs : Array Value} {t : TypeId} (h : Blk w g cs t) (k : Chg S w w') (hg : ¬ S g) : Blk w' g cs t := (k.block g h.lt hg).trans h
/-- The operation answers that both answer alike; how both stand behind it. -/
def DoR (Rep : World → Value → Vs → (Nat → Prop) → (Nat → Prop) → Prop) (v : Value) (s' : Vs) (b wt rd rg : Sh) (S D : Nat → Prop) (w : World) (e : Ending) (w' : World) : Prop := ∃ (wt' rd' rg' : Sh) (S' D' : Nat → Prop), e = .returned (.tuple #[.bool true, .agg #[.slice b.a b.n b.c, .slice wt'.a wt'.n wt'.c, .slice rd'.a rd'.n rd'.c, .slice rg'.a rg'.n rg'.c]]) ∧ Rep w' v s' S' D' ∧ DvF w' s' b wt' rd' rg' S' ∧ Stp S D S' D' w w' ∧ (wt' = wt ∨ NewA w wt') ∧ (rd' = rd ∨ NewA w rd') ∧ (rg' = rg ∨ NewA w rg')
theorem cut_is {s : Vs} {v : Value} {S D : Nat → Prop} {k : ByteArray} {ok : Bool} {w : World} (hX : CutOk Rep) (hw : (!fullW s.wr ⟨k, ⟨#[]⟩, true⟩) = ok) (hr : Rep w v s S D) (hl : Lim s) (h1 : k.size ≤ 200000000000000) :
    Calls Tryd.prog 30 #[v, .string k] w fun e w' => ∃ S' D', e = .returned (.bool ok) ∧ Rep w' v (s.write ⟨k, ⟨#[]⟩, true⟩) S' D' ∧ Stp S D S' D' w w' := by
  subst hw
  exact hX k hr hl h1
end Go.Proofs.YtbdokofdbeccdaaDoor.ViewD

/- Layer 14's laws: 'same': the project's view shows what the document's does. -/
namespace Go.Proofs.YtbdokofdbeccdaaDoor.ViewE
set_option linter.unusedVariables false
set_option linter.unusedSimpArgs false
open Go.RowKit
open Go.Proofs.YtbdokofdbeccdaaDoor.Byte Go.Proofs.YtbdokofdbeccdaaDoor.KeysM Go.Proofs.YtbdokofdbeccdaaDoor.TreeM Go.Proofs.YtbdokofdbeccdaaDoor.ViewM Go.Proofs.YtbdokofdbeccdaaDoor.Own Go.Proofs.YtbdokofdbeccdaaDoor.Rw Go.Proofs.YtbdokofdbeccdaaDoor.Lst Go.Proofs.YtbdokofdbeccdaaDoor.Chg Go.Proofs.YtbdokofdbeccdaaDoor.TreeR Go.Proofs.YtbdokofdbeccdaaDoor.TreeS Go.Proofs.YtbdokofdbeccdaaDoor.TreeL Go.Proofs.YtbdokofdbeccdaaDoor.TreeG Go.Proofs.YtbdokofdbeccdaaDoor.TreeH Go.Proofs.YtbdokofdbeccdaaDoor.Ho Go.Proofs.YtbdokofdbeccdaaDoor.ViewR Go.Proofs.YtbdokofdbeccdaaDoor.ViewG Go.Proofs.YtbdokofdbeccdaaDoor.ViewS Go.Proofs.YtbdokofdbeccdaaDoor.ViewL Go.Proofs.YtbdokofdbeccdaaDoor.ViewB Go.Proofs.YtbdokofdbeccdaaDoor.ViewD
variable {Rep : World → Value → Vs → (Nat → Prop) → (Nat → Prop) → Prop}

theorem below_drewN {B : Nat} {a w : World} (h : Below B a w) (n : Nat) : Below B a (w.drewN n) := ⟨h.os, h.tape, h.output, h.size, h.block⟩
end Go.Proofs.YtbdokofdbeccdaaDoor.ViewE

/- Layer 14's laws ViewPlays and ViewCopies, over what the project's view is asked. -/
namespace Go.Proofs.YtbdokofdbeccdaaDoor.ViewP
set_option linter.unusedVariables false
set_option linter.unusedSimpArgs false
open Go.RowKit
open Go.Proofs.YtbdokofdbeccdaaDoor.Byte Go.Proofs.YtbdokofdbeccdaaDoor.KeysM Go.Proofs.YtbdokofdbeccdaaDoor.TreeM Go.Proofs.YtbdokofdbeccdaaDoor.ViewM Go.Proofs.YtbdokofdbeccdaaDoor.Own Go.Proofs.YtbdokofdbeccdaaDoor.Rw Go.Proofs.YtbdokofdbeccdaaDoor.Lst Go.Proofs.YtbdokofdbeccdaaDoor.Chg Go.Proofs.YtbdokofdbeccdaaDoor.TreeR Go.Proofs.YtbdokofdbeccdaaDoor.TreeS Go.Proofs.YtbdokofdbeccdaaDoor.TreeL Go.Proofs.YtbdokofdbeccdaaDoor.TreeG Go.Proofs.YtbdokofdbeccdaaDoor.TreeH Go.Proofs.YtbdokofdbeccdaaDoor.Ho Go.Proofs.YtbdokofdbeccdaaDoor.ViewR Go.Proofs.YtbdokofdbeccdaaDoor.ViewG Go.Proofs.YtbdokofdbeccdaaDoor.ViewS Go.Proofs.YtbdokofdbeccdaaDoor.ViewL Go.Proofs.YtbdokofdbeccdaaDoor.ViewB Go.Proofs.YtbdokofdbeccdaaDoor.ViewD Go.Proofs.YtbdokofdbeccdaaDoor.ViewE

variable {Rep : World → Value → Vs → (Nat → Prop) → (Nat → Prop) → Prop}
theorem add_len (a b : ByteArray) (G : List (ByteArray × ByteArray)) : (addR a b G).length ≤ G.length + 1 := by
  unfold addR
  split
  · omega
  · simp
/-- How much a view holds when so many operations were done. -/
structure Few (L : List Pr) (k : Nat) (s : Vs) : Prop where
  base : s.base = L
  rd : s.rd.length ≤ k
  rg : s.rg.length ≤ k
theorem Few.next {L : List Pr} {k : Nat} {s : Vs} (h : Few L k s) (o : Op14) : Few L (k + 1) (doS s o) := by
  have hw : ∀ p, Few L (k + 1) (s.write p) := fun p => by
    unfold Vs.write
    split
    · exact ⟨h.base, by have := h.rd; omega, by have := h.rg; omega⟩
    · exact ⟨h.base, by have := h.rd; show s.rd.length ≤ _; omega, by have := h.rg; show s.rg.length ≤ _; omega⟩
  unfold doS
  split
  · exact ⟨h.base, Nat.le_trans (putP_len _ _) (by have := h.rd; omega), by have := h.rg; show s.rg.length ≤ _; omega⟩
  split
  · exact ⟨h.base, by have := h.rd; omega, by have := h.rg; omega⟩
  split
  · unfold Vs.ranged
    split
    · exact ⟨h.base, by have := h.rd; show s.rd.length ≤ _; omega, Nat.le_trans (add_len _ _ _) (by have := h.rg; omega)⟩
    · exact ⟨h.base, by have := h.rd; omega, by have := h.rg; omega⟩
  split
  · exact hw _
  split
  · exact hw _
  · exact ⟨h.base, by have := h.rd; omega, by have := h.rg; omega⟩
theorem Few.lim {L : List Pr} {k : Nat} {s : Vs} (h : Few L k s) (hL : L.length ≤ 60) (hk : k ≤ 900) : Lim s := ⟨by rw [h.base]; omega, by have := h.rd; omega, by have := h.rg; omega⟩
theorem kept_grown {W W' : World} {r : Nat} {cs : Array Value} {T : TypeId} (h : Blk W r cs T) (hne : 60 ≠ T ∧ 113 ≠ T) (hg : W.grownBy W' (some r)) : Kept W W' := fun q cs' U fr hU hb => by
  by_cases e : q = r
  · subst e
    unfold Blk at h
    rw [h] at hb
    injection hb with hb
    injection hb with _ hT _
    subst hT
    rcases hU with h1 | h1
    · exact absurd h1.symm hne.1
    · exact absurd h1.symm hne.2
  · have hlt : q < W.heap.size := (Array.getElem?_eq_some_iff.1 hb).1
    exact (hg.block q hlt (fun h => e (by first | exact (Option.some.inj h).symm | exact Option.some.inj h))).trans hb
end Go.Proofs.YtbdokofdbeccdaaDoor.ViewP
