/- The contracts of the document's answer for layer 14: a view by value. -/
import Derived.Test.YtlblfpacnegmlaaTreeS
import Derived.Test.YtlblfpacnegmlaaViewM
import Derived.Test.YtlblfpacnegmlaaHo
namespace Go.Proofs.Ytlblfpacnegmlaa.ViewR
set_option linter.unusedVariables false
set_option linter.unusedSimpArgs false
open Go.RowKit
open Go.Proofs.Ytlblfpacnegmlaa.Byte Go.Proofs.Ytlblfpacnegmlaa.KeysM Go.Proofs.Ytlblfpacnegmlaa.TreeM Go.Proofs.Ytlblfpacnegmlaa.ViewM Go.Proofs.Ytlblfpacnegmlaa.Own Go.Proofs.Ytlblfpacnegmlaa.Rw Go.Proofs.Ytlblfpacnegmlaa.Lst Go.Proofs.Ytlblfpacnegmlaa.TreeR Go.Proofs.Ytlblfpacnegmlaa.TreeS Go.Proofs.Ytlblfpacnegmlaa.Ho

/-- Keys that were read, as pairs without values. -/
def rdE : Enc Pr := ⟨fun p => [.string p.key], 1, fun _ => rfl, fun x u hu => by
  simp only [List.mem_cons, List.mem_nil_iff, or_false] at hu
  rcases hu with rfl <;> rfl, by decide⟩
def rgE : Enc (ByteArray × ByteArray) := ⟨fun p => [.string p.1, .string p.2], 2, fun _ => rfl, fun x u hu => by
  simp only [List.mem_cons, List.mem_nil_iff, or_false] at hu
  rcases hu with rfl | rfl <;> rfl, by decide⟩
theorem info_rd : (Try.prog.info? 9).map (fun i => (i.zero, i.size, i.bytes)) = some (some (.string ⟨#[]⟩), rdE.size, 16) := by kernel_rfl
theorem info_rg : (Try.prog.info? 47).map (fun i => (i.zero, i.size, i.bytes)) = some (some (.agg #[.string ⟨#[]⟩, .string ⟨#[]⟩]), rgE.size, 32) := by kernel_rfl
section
variable {P : Program} {w : World}
/-- append of a slice that may be nil. -/
theorem wpList_append_any {α : Type} {ops : Array Oper} {rest : List Oper} {o : Oper} {a : Act} {Q : Exit → Act → World → Prop} (e : Enc α) (T : TypeId) (hgd : o.guard = none) (s x : Operand) (t : TypeId)
    (ho : o.op = .call { callee := .builtin .append, args := #[s, x], argTypes := #[t, t] }) (ht : P.underlying t = some (.slice T)) {z : Value} {bytes : Nat} (hinfo : (P.info? T).map (fun i => (i.zero, i.size, i.bytes)) = some (some z, e.size, bytes)) (hzs : z.cells.size = e.size)
    (base : Nat) (v : Value) (n : Nat) (L : List α) (hs : a.eval s = v) (hown : So e T w base v n L)
    (A : Option Addr) (m c : Nat) (M : List α) (hx : a.eval x = .slice A m c) (hr : Sl e w A m M) (hsp : ∀ b, A = some b → b.spot = none) (hnil : A = none → m = 0 ∧ c = 0)
    (h63 : n + m ≤ maxLen) (hbytes : (n + m) * bytes ≤ 140737488355328) (hbase : base ≤ w.heap.size)
    (h : ∀ v' w', So e T w' base v' (n + m) (L ++ M) → w.grownBy w' v.ownBlock → wpList P ops Q rest (a.put o.dst v') w') :
    wpList P ops Q (o :: rest) a w := by
  cases A with
  | none =>
    obtain ⟨rfl, rfl⟩ := hnil rfl
    obtain ⟨i, hi, _⟩ := info_parts hinfo
    have hM := List.eq_nil_of_length_eq_zero hr.1
    subst hM
    refine wpList_append_own_none hgd s x t ho base T i e.size ht hi v n _ hs hown.2 hx ?_
    have := h v w (by simpa using hown) (World.grownBy.refl w _)
    exact this
  | some b =>
    obtain ⟨bb, oo, sp⟩ := b
    have := hsp _ rfl
    dsimp only at this
    subst this
    exact wpList_append_lst e T hgd s x t ho ht hinfo hzs base v n L hs hown bb oo m c M hx hr _ rfl _ rfl h63 hbytes hbase (fun v' w' h1 h2 _ _ => h v' w' h1 h2)
end
/-- A slice's head: its address, length, capacity. -/
structure Sh where
  a : Option Addr
  n : Nat
  c : Nat
abbrev Sh.v (h : Sh) : Value := .slice h.a h.n h.c
/-- What lies there was made by the call. -/
def NewA (w : World) (h : Sh) : Prop := ∀ bb oo, h.a = some ⟨bb, oo, none⟩ → w.heap.size ≤ bb
/-- A slice that reads as a list, its capacity as it may be. -/
def Ss {α : Type} (e : Enc α) (w : World) (h : Sh) (L : List α) : Prop := Sl e w h.a h.n L ∧ h.n ≤ h.c ∧ h.c ≤ maxLen ∧ (h.a = none → h.c = 0) ∧ ∀ b, h.a = some b → b.spot = none
theorem Ss.below {α : Type} {e : Enc α} {w w' : World} {h : Sh} {L : List α} (s : Ss e w h L) (hb : Below w.heap.size w w') : Ss e w' h L := ⟨s.1.below hb, s.2⟩
theorem Ss.len {α : Type} {e : Enc α} {w : World} {h : Sh} {L : List α} (s : Ss e w h L) : L.length = h.n := s.1.1
theorem Ss.of_so {α : Type} {e : Enc α} {T : TypeId} {w : World} {base n : Nat} {v : Value} {L : List α} (s : So e T w base v n L) : ∃ h : Sh, v = h.v ∧ h.n = n ∧ Ss e w h L := by
  rcases s.form with ⟨rfl, h0⟩ | ⟨g, cap, rfl, h1, h2, h3, h4⟩
  · subst h0
    have hl := List.eq_nil_of_length_eq_zero s.1
    subst hl
    exact ⟨⟨none, 0, 0⟩, rfl, rfl, Sl.nil_ _ _ _, Nat.le_refl _, by decide, fun _ => rfl, fun b h => by cases h⟩
  · exact ⟨⟨some ⟨g, 0, none⟩, n, cap⟩, rfl, rfl, s.sl, h3, h4, (fun h => by cases h), fun b h => by injection h with h; rw [← h]⟩
/-- The document's view by value. -/
structure Dv (w : World) (s : Vs) (b wr rd rg : Sh) : Prop where
  base : Ss prE w b s.base
  wr : Ss prE w wr s.wr
  rd : Ss rdE w rd s.rd
  rg : Ss rgE w rg s.rg
theorem Dv.below {w w' : World} {s : Vs} {b wr rd rg : Sh} (d : Dv w s b wr rd rg) (hb : Below w.heap.size w w') : Dv w' s b wr rd rg := ⟨d.base.below hb, d.wr.below hb, d.rd.below hb, d.rg.below hb⟩
/-- The call answers with a row that reads as these pairs; nothing that was there has changed. -/
def RowR (M : List Pr) (w : World) (e : Ending) (w' : World) : Prop := ∃ h : Sh, e = .returned h.v ∧ Ss prE w' h M ∧ Below w.heap.size w w'
theorem RowR.of {M : List Pr} {w w' : World} {e : Ending} (h : Made M w e w') : RowR M w e w' := by
  obtain ⟨v, rfl, ho, hb⟩ := h
  obtain ⟨h, rfl, _, hs⟩ := Ss.of_so ho
  exact ⟨h, rfl, hs, hb⟩
theorem in_yes {W : List Pr} {k : ByteArray} {j : Nat} {x : Pr} (h : W[j]? = some x) (hk : x.key = k) : inW k W = true := by
  unfold inW getL
  rw [List.find?_isSome]
  exact ⟨x, List.mem_of_getElem? h, by simpa using hk⟩
theorem in_no {W : List Pr} {k : ByteArray} (h : ∀ j x, j < W.length → W[j]? = some x → x.key ≠ k) : inW k W = false := by
  unfold inW getL
  rw [← Bool.not_eq_true, List.find?_isSome]
  rintro ⟨x, hx, hk⟩
  obtain ⟨j, hj, rfl⟩ := List.mem_iff_getElem.1 hx
  exact h j _ hj (List.getElem?_eq_getElem hj) (by simpa using hk)
theorem neq_false {a b : ByteArray} (h : a ≠ b) : (a.toList == b.toList) = false := by rw [eq_list, decide_eq_false h]
theorem neq_true {a b : ByteArray} (h : a = b) : (a.toList == b.toList) = true := by rw [eq_list, decide_eq_true h]
end Go.Proofs.Ytlblfpacnegmlaa.ViewR
