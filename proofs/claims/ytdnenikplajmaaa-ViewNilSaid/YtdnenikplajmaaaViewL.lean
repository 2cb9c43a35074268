/- Layer 14's laws, over what the project's view is asked (Vw): how it stands, what its methods do; fixed. -/
import Derived.Test.YtdnenikplajmaaaViewS
import Derived.Test.YtdnenikplajmaaaViewWa
import Derived.Test.YtdnenikplajmaaaTreeH
namespace Go.Proofs.Ytdnenikplajmaaa.ViewL
set_option linter.unusedVariables false
set_option linter.unusedSimpArgs false
open Go.RowKit
open Go.Proofs.Ytdnenikplajmaaa.Byte Go.Proofs.Ytdnenikplajmaaa.KeysM Go.Proofs.Ytdnenikplajmaaa.TreeM Go.Proofs.Ytdnenikplajmaaa.ViewM Go.Proofs.Ytdnenikplajmaaa.Own Go.Proofs.Ytdnenikplajmaaa.Rw Go.Proofs.Ytdnenikplajmaaa.Lst Go.Proofs.Ytdnenikplajmaaa.Chg Go.Proofs.Ytdnenikplajmaaa.TreeR Go.Proofs.Ytdnenikplajmaaa.TreeS Go.Proofs.Ytdnenikplajmaaa.TreeL Go.Proofs.Ytdnenikplajmaaa.TreeG Go.Proofs.Ytdnenikplajmaaa.TreeH Go.Proofs.Ytdnenikplajmaaa.Ho Go.Proofs.Ytdnenikplajmaaa.ViewR Go.Proofs.Ytdnenikplajmaaa.ViewG Go.Proofs.Ytdnenikplajmaaa.ViewW Go.Proofs.Ytdnenikplajmaaa.ViewS

/-- What a slice holds does not lie in these blocks. -/
def Off (S : Nat → Prop) (h : Sh) : Prop := 0 < h.n → ∀ b o, h.a = some ⟨b, o, none⟩ → ¬ S b
theorem sl_lt {α : Type} {e : Enc α} {w : World} {A : Option Addr} {n : Nat} {L : List α} (h : Sl e w A n L) (hn : 0 < n) : ∃ b o, A = some ⟨b, o, none⟩ ∧ b < w.heap.size := by
  obtain ⟨x, b, o, _, h2, h3, _⟩ := h.get 0 hn
  exact ⟨b, o, h2, h3⟩
theorem ss_chg {α : Type} {e : Enc α} {S : Nat → Prop} {w w' : World} {h : Sh} {L : List α} (s : Ss e w h L) (k : Chg S w w') (ho : Off S h) : Ss e w' h L := by
  refine ⟨?_, s.2⟩
  by_cases hn : 0 < h.n
  · exact Sl.chg s.1 k (ho hn)
  · have h0 : h.n = 0 := by omega
    have hl : L = [] := List.eq_nil_of_length_eq_zero (by rw [s.1.1, h0])
    rw [hl, h0]
    exact Sl.nil_ _ _ _
theorem Off.grow {α : Type} {e : Enc α} {S S' : Nat → Prop} {w : World} {h : Sh} {L : List α} (ho : Off S h) (s : Ss e w h L) (g : Grow w S S') : Off S' h := fun hn b o e hb => by
  obtain ⟨b', o', e', hlt⟩ := sl_lt s.1 hn
  rw [e] at e'
  injection e' with e'
  injection e' with e1 _
  rcases g b hb with h1 | h1
  · exact ho hn b o e h1
  · omega
theorem Off.new {S : Nat → Prop} {w : World} {h : Sh} (hS : ∀ b, S b → b < w.heap.size) (hA : NewA w h) : Off S h := fun _ b o e hb => by
  have h1 := hS b hb
  have h2 := hA b o e
  omega
theorem Off.old {α : Type} {e : Enc α} {S : Nat → Prop} {w : World} {h : Sh} {L : List α} (s : Ss e w h L) (hS : ∀ b, S b → w.heap.size ≤ b) : Off S h := fun hn b o e hb => by
  obtain ⟨b', o', e', hlt⟩ := sl_lt s.1 hn
  rw [e] at e'
  injection e' with e'
  injection e' with e1 _
  have := hS b hb
  omega
theorem Off.or {S : Nat → Prop} {α : Type} {e : Enc α} {w : World} {h : Sh} {L : List α} {r : Nat} (ho : Off S h) (s : Ss e w h L) (hr : w.heap.size ≤ r) : Off (fun k => S k ∨ k = r) h := fun hn b o e hb => by
  obtain ⟨b', o', e', hlt⟩ := sl_lt s.1 hn
  rw [e] at e'
  injection e' with e'
  injection e' with e1 _
  rcases hb with hb | hb
  · exact ho hn b o e hb
  · omega
/-- The document's view by value, away from these blocks. -/
structure DvF (w : World) (s : Vs) (b wt rd rg : Sh) (S : Nat → Prop) : Prop where
  dv : Dv w s b wt rd rg
  fb : Off S b
  fw : Off S wt
  fr : Off S rd
  fg : Off S rg
theorem DvF.chg {w w' : World} {s : Vs} {b wt rd rg : Sh} {S : Nat → Prop} (d : DvF w s b wt rd rg S) (k : Chg S w w') : Dv w' s b wt rd rg :=
  ⟨ss_chg d.dv.base k d.fb, ss_chg d.dv.wr k d.fw, ss_chg d.dv.rd k d.fr, ss_chg d.dv.rg k d.fg⟩
theorem DvF.grow {w : World} {s : Vs} {b wt rd rg : Sh} {S S' : Nat → Prop} (d : DvF w s b wt rd rg S) (g : Grow w S S') : DvF w s b wt rd rg S' :=
  ⟨d.dv, d.fb.grow d.dv.base g, d.fw.grow d.dv.wr g, d.fr.grow d.dv.rd g, d.fg.grow d.dv.rg g⟩
theorem DvF.next {w w' : World} {s : Vs} {b wt rd rg : Sh} {S S' : Nat → Prop} (d : DvF w s b wt rd rg S) (k : Chg S w w') (g : Grow w S S') : DvF w' s b wt rd rg S' :=
  ⟨d.chg k, (d.grow g).fb, (d.grow g).fw, (d.grow g).fr, (d.grow g).fg⟩
theorem DvF.below {w w' : World} {s : Vs} {b wt rd rg : Sh} {S : Nat → Prop} (d : DvF w s b wt rd rg S) (k : Below w.heap.size w w') : DvF w' s b wt rd rg S := ⟨d.dv.below k, d.fb, d.fw, d.fr, d.fg⟩

/-- A view as it may be gone through. -/
structure Lim (s : Vs) : Prop where
  base : s.base.length ≤ 100
  rd : s.rd.length ≤ 1000
  rg : s.rg.length ≤ 1000
/-- Behind a view's method: which blocks may have changed, which are its own and which it leans on from then on. -/
structure Stp (S D S' D' : Nat → Prop) (w w' : World) : Prop where
  chg : Chg S w w'
  kept : Kept w w'
  own : Grow w S S'
  dep : Grow w D D'
/-- What the project's view is asked: 'Rep w v s S D': v is a view that stands as s; only its own blocks S are written by its methods; it leans on the blocks D (and on nodes of trees). -/
structure Stays (Rep : World → Value → Vs → (Nat → Prop) → (Nat → Prop) → Prop) : Prop where
  stay : ∀ {w w' v s S D} {T : Nat → Prop}, Rep w v s S D → Chg T w w' → (∀ b, T b → ¬ D b) → Kept w w' → Rep w' v s S D
  ok : ∀ {w v s S D}, Rep w v s S D → s.Ok
  lt : ∀ {w v s S D}, Rep w v s S D → ∀ b, D b → b < w.heap.size
  sub : ∀ {w v s S D}, Rep w v s S D → ∀ b, S b → D b
variable {Rep : World → Value → Vs → (Nat → Prop) → (Nat → Prop) → Prop}
theorem Stays.below (h : Stays Rep) {w w' : World} {v : Value} {s : Vs} {S D : Nat → Prop} (r : Rep w v s S D) (hb : Below w.heap.size w w') : Rep w' v s S D :=
  h.stay (T := fun _ => False) r (Chg.of_below hb) (fun _ h => h.elim) (Kept.of_below hb)
def NewOk (Rep : World → Value → Vs → (Nat → Prop) → (Nat → Prop) → Prop) : Prop := ∀ ⦃w t L h⦄, TRep w t L h → L.length ≤ 100 → Calls Try.prog 9 #[t] w fun e w' => ∃ v S D, e = .returned v ∧ Rep w' v ⟨L, [], [], []⟩ S D ∧ (∀ b, S b → w.heap.size ≤ b) ∧ (∀ b, D b → w.heap.size ≤ b) ∧ Below w.heap.size w w'
def GetOk (Rep : World → Value → Vs → (Nat → Prop) → (Nat → Prop) → Prop) : Prop := ∀ ⦃w v s S D⦄ (k : ByteArray), Rep w v s S D → Lim s → k.size ≤ 200000000000000 → Calls Try.prog 20 #[v, .string k] w fun e w' => ∃ S' D', e = .returned (GotV (getL k s.shown)) ∧ Rep w' v (s.read k) S' D' ∧ Stp S D S' D' w w'
def LookOk (Rep : World → Value → Vs → (Nat → Prop) → (Nat → Prop) → Prop) : Prop := ∀ ⦃w v s S D⦄ (k : ByteArray), Rep w v s S D → Lim s → k.size ≤ 200000000000000 → Calls Try.prog 21 #[v, .string k] w fun e w' => ∃ S' D', e = .returned (GotV (getL k s.shown)) ∧ Rep w' v s S' D' ∧ Stp S D S' D' w w'
def RangeOk (Rep : World → Value → Vs → (Nat → Prop) → (Nat → Prop) → Prop) : Prop := ∀ ⦃w v s S D⦄ (x y : ByteArray), Rep w v s S D → Lim s → x.size ≤ 200000000000000 → y.size ≤ 200000000000000 → Calls Try.prog 22 #[v, .string x, .string y] w fun e w' => ∃ (r : Sh) (S' D' : Nat → Prop), e = .returned (.slice r.a r.n r.c) ∧ Sl prE w' r.a r.n (s.rangeOf x y) ∧ (0 < r.n → NewA w r) ∧ Rep w' v (s.ranged x y) S' D' ∧ Stp S D S' D' w w'
def SetOk (Rep : World → Value → Vs → (Nat → Prop) → (Nat → Prop) → Prop) : Prop := ∀ ⦃w v s S D⦄ (k x : ByteArray), Rep w v s S D → Lim s → k.size ≤ 200000000000000 → x.size ≤ 200000000000000 → Calls Try.prog 16 #[v, .string k, .string x] w fun e w' => ∃ S' D', e = .returned (.bool (!fullW s.wr ⟨k, x, false⟩)) ∧ Rep w' v (s.write ⟨k, x, false⟩) S' D' ∧ Stp S D S' D' w w'
def CutOk (Rep : World → Value → Vs → (Nat → Prop) → (Nat → Prop) → Prop) : Prop := ∀ ⦃w v s S D⦄ (k : ByteArray), Rep w v s S D → Lim s → k.size ≤ 200000000000000 → Calls Try.prog 19 #[v, .string k] w fun e w' => ∃ S' D', e = .returned (.bool (!fullW s.wr ⟨k, ⟨#[]⟩, true⟩)) ∧ Rep w' v (s.write ⟨k, ⟨#[]⟩, true⟩) S' D' ∧ Stp S D S' D' w w'
def WritesOk (Rep : World → Value → Vs → (Nat → Prop) → (Nat → Prop) → Prop) : Prop := ∀ ⦃w v s S D⦄, Rep w v s S D → Lim s → Calls Try.prog 17 #[v] w fun e w' => ∃ r : Sh, e = .returned (.slice r.a r.n r.c) ∧ Sl prE w' r.a r.n s.wr ∧ Below w.heap.size w w'
def ReadsOk (Rep : World → Value → Vs → (Nat → Prop) → (Nat → Prop) → Prop) : Prop := ∀ ⦃w v s S D⦄, Rep w v s S D → Lim s → Calls Try.prog 23 #[v] w fun e w' => ∃ r : Sh, e = .returned (.slice r.a r.n r.c) ∧ Sl rdE w' r.a r.n s.rd ∧ Below w.heap.size w w'
def RangesOk (Rep : World → Value → Vs → (Nat → Prop) → (Nat → Prop) → Prop) : Prop := ∀ ⦃w v s S D⦄, Rep w v s S D → Lim s → Calls Try.prog 24 #[v] w fun e w' => ∃ r : Sh, e = .returned (.slice r.a r.n r.c) ∧ Sl rgE w' r.a r.n s.rg ∧ Below w.heap.size w w'
def CopyOk (Rep : World → Value → Vs → (Nat → Prop) → (Nat → Prop) → Prop) : Prop := ∀ ⦃w v s S D⦄, Rep w v s S D → Lim s → Calls Try.prog 14 #[v] w fun e w' => ∃ v' S' D', e = .returned v' ∧ Rep w' v' s S' D' ∧ (∀ b, S' b → w.heap.size ≤ b) ∧ Below w.heap.size w w'
theorem below_chg {B : Nat} {w w1 w2 : World} {S : Nat → Prop} (h : Below B w w1) (k : Chg S w1 w2) (hS : ∀ b, S b → B ≤ b) (hB : B ≤ w.heap.size) : Below B w w2 :=
  ⟨k.os.trans h.os, k.tape.trans h.tape, k.output.trans h.output, Nat.le_trans h.size k.size, fun i hi => (k.block i (by have := h.size; omega) (fun hk => by have := hS i hk; omega)).trans (h.block i hi)⟩
theorem new_own {w1 : World} {S S' : Nat → Prop} {B : Nat} (hS : ∀ b, S b → B ≤ b) (hB : B ≤ w1.heap.size) (g : Grow w1 S S') : ∀ b, S' b → B ≤ b := fun b hb => by
  rcases g b hb with h | h
  · exact hS b h
  · omega

/-! ### the chapter's example -/
def eA : Pr := ⟨⟨#[97]⟩, ⟨#[49]⟩, false⟩
def eG : Pr := ⟨⟨#[97]⟩, ⟨#[]⟩, true⟩
def eB : Pr := ⟨⟨#[98]⟩, ⟨#[50]⟩, false⟩
def x0 : Vs := ⟨[eA], [], [], []⟩
def x1 : Vs := ⟨[eA], [eG], [], []⟩
def x2 : Vs := ⟨[eA], [eG, eB], [], []⟩
def x3 : Vs := ⟨[eA], [eG, eB], [], [(⟨#[]⟩, ⟨#[122]⟩)]⟩
theorem y0 : putL ⟨#[97]⟩ ⟨#[49]⟩ [] = [eA] := by decide +kernel
theorem y1 : writeW [eA] [] eG = [eG] ∧ fullW [] eG = false := by decide +kernel
theorem y2 : writeW [eA] [eG] eB = [eG, eB] ∧ fullW [eG] eB = false := by decide +kernel
theorem y3 : rangeL ⟨#[]⟩ ⟨#[122]⟩ (shownL [eA] [eG, eB]) = [eB] ∧ kl ⟨#[]⟩ ⟨#[122]⟩ = true := by decide +kernel
theorem w1_ : x0.write eG = x1 := by unfold Vs.write; rw [if_neg (by rw [show x0.wr = [] from rfl, y1.2]; decide)]; rw [show x0.base = [eA] from rfl, show x0.wr = [] from rfl, y1.1]; rfl
theorem w2_ : x1.write eB = x2 := by unfold Vs.write; rw [if_neg (by rw [show x1.wr = [eG] from rfl, y2.2]; decide)]; rw [show x1.base = [eA] from rfl, show x1.wr = [eG] from rfl, y2.1]; rfl
theorem w3_ : x2.ranged ⟨#[]⟩ ⟨#[122]⟩ = x3 := by unfold Vs.ranged; rw [if_pos y3.2]; rfl
theorem r3_ : x2.rangeOf ⟨#[]⟩ ⟨#[122]⟩ = [eB] := by unfold Vs.rangeOf; rw [if_pos y3.2]; exact y3.1
theorem lim_ (s : Vs) (h : s.base = [eA]) (h1 : s.rd = []) (h2 : s.rg.length ≤ 1) : Lim s := ⟨by rw [h]; decide, by rw [h1]; decide, by omega⟩
end Go.Proofs.Ytdnenikplajmaaa.ViewL
