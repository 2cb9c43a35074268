/- Merged: WalkL WalkD. -/
import Derived.Test.YtbdokofdbeccdaaDoorWalkReadsMBA
import Derived.Test.YtbdokofdbeccdaaDoorWalkR
import Derived.Test.YtbdokofdbeccdaaDoorTreeS
/- Layer 17's laws, over what the project's walk is asked: a view of nothing and a row of pairs, side by side; do, cut, fixed. -/
namespace Go.Proofs.YtbdokofdbeccdaaDoor.WalkL
set_option linter.unusedVariables false
set_option linter.unusedSimpArgs false
open Go.RowKit
open Go.Proofs.YtbdokofdbeccdaaDoor.Byte Go.Proofs.YtbdokofdbeccdaaDoor.KeysM Go.Proofs.YtbdokofdbeccdaaDoor.KeysR Go.Proofs.YtbdokofdbeccdaaDoor.TreeM Go.Proofs.YtbdokofdbeccdaaDoor.ViewM Go.Proofs.YtbdokofdbeccdaaDoor.NodeM Go.Proofs.YtbdokofdbeccdaaDoor.WalkM Go.Proofs.YtbdokofdbeccdaaDoor.Rw Go.Proofs.YtbdokofdbeccdaaDoor.Lst Go.Proofs.YtbdokofdbeccdaaDoor.Chg Go.Proofs.YtbdokofdbeccdaaDoor.TreeR Go.Proofs.YtbdokofdbeccdaaDoor.TreeS Go.Proofs.YtbdokofdbeccdaaDoor.TreeL Go.Proofs.YtbdokofdbeccdaaDoor.TreeG Go.Proofs.YtbdokofdbeccdaaDoor.TreeH Go.Proofs.YtbdokofdbeccdaaDoor.ViewR Go.Proofs.YtbdokofdbeccdaaDoor.ViewL Go.Proofs.YtbdokofdbeccdaaDoor.ViewP Go.Proofs.YtbdokofdbeccdaaDoor.WalkR
open Go.Proofs.YtbdokofdbeccdaaDoor.Own hiding keeps

/-! ### what the project's walk is asked -/
abbrev RepT := World → Value → Vs → (Nat → Prop) → (Nat → Prop) → Prop
/-- The call answers so, and leaves the view so. -/
def Stepped (Rep : RepT) (v : Value) (s : Vs) (a : Value) (S D : Nat → Prop) (w : World) (e : Ending) (w' : World) : Prop := ∃ S' D', e = .returned a ∧ Rep w' v s S' D' ∧ Stp S D S' D' w w'
structure InoB (k l s p : Int) : Prop where
  k0 : 0 ≤ k
  k1 : k ≤ 255
  l0 : 0 ≤ l
  l1 : l ≤ 4294967295
  s0 : 0 ≤ s
  s1 : s ≤ 4294967295
  p0 : 0 ≤ p
  p1 : p ≤ 4294967295
def SaveOk (Rep : RepT) : Prop := ∀ ⦃w v s S D⦄ (ino k l z p : Int), Rep w v s S D → Lim s → 0 ≤ ino → ino ≤ 4294967295 → InoB k l z p → Calls Tryd.prog 20 #[v, .int .u32 ino, .agg #[.int .u8 k, .int .u32 l, .int .u32 z, .int .u32 p]] w (Stepped Rep v (s.write ⟨kI ino, nput k l z p, false⟩) (.bool (!fullW s.wr ⟨kI ino, nput k l z p, false⟩)) S D w)
def DropOk (Rep : RepT) : Prop := ∀ ⦃w v s S D⦄ (ino : Int), Rep w v s S D → Lim s → 0 ≤ ino → ino ≤ 4294967295 → Calls Tryd.prog 22 #[v, .int .u32 ino] w (Stepped Rep v (s.write ⟨kI ino, ⟨#[]⟩, true⟩) (.bool (!fullW s.wr ⟨kI ino, ⟨#[]⟩, true⟩)) S D w)
def HangOk (Rep : RepT) : Prop := ∀ ⦃w v s S D⦄ (dir : Int) (name : ByteArray) (ino : Int), Rep w v s S D → Lim s → 0 ≤ dir → dir ≤ 4294967295 → 0 ≤ ino → ino ≤ 4294967295 → name.size ≤ 100000 → Calls Tryd.prog 10 #[v, .int .u32 dir, .string name, .int .u32 ino] w (Stepped Rep v (s.write ⟨kE dir name, hangV ino, false⟩) (.bool (!fullW s.wr ⟨kE dir name, hangV ino, false⟩)) S D w)
def UnhangOk (Rep : RepT) : Prop := ∀ ⦃w v s S D⦄ (dir : Int) (name : ByteArray), Rep w v s S D → Lim s → 0 ≤ dir → dir ≤ 4294967295 → name.size ≤ 100000 → Calls Tryd.prog 12 #[v, .int .u32 dir, .string name] w (Stepped Rep v (s.write ⟨kE dir name, ⟨#[]⟩, true⟩) (.bool (!fullW s.wr ⟨kE dir name, ⟨#[]⟩, true⟩)) S D w)
def ChildOk (Rep : RepT) : Prop := ∀ ⦃w v s S D⦄ (dir : Int) (name : ByteArray), Rep w v s S D → Lim s → 0 ≤ dir → dir ≤ 4294967295 → name.size ≤ 100000 → Calls Tryd.prog 11 #[v, .int .u32 dir, .string name] w (Stepped Rep v (s.read (kE dir name)) (.tuple #[.int .u32 (childM s.shown dir name).1, .bool (childM s.shown dir name).2]) S D w)
/-- The names of a directory of which all keys are inodes' and entries'; some range is read. -/
def ListOk (Rep : RepT) : Prop := ∀ ⦃w v s S D⦄ (dir : Int), Rep w v s S D → Lim s → 0 ≤ dir → dir ≤ 4294967295 → (∀ p ∈ s.shown, (sp p.key).letter ≠ 0) → Calls Tryd.prog 13 #[v, .int .u32 dir] w fun e w' => ∃ A m c a b S' D', e = .returned (.slice A m c) ∧ Sl Tx.txE w' A m (listM dir s.shown) ∧ Rep w' v (s.ranged a b) S' D' ∧ Stp S D S' D' w w'

/-- A view of nothing. -/
def NewE (Rep : RepT) : Prop := ∀ ⦃w t h⦄, TRep w t [] h → Calls Tryd.prog 6 #[t] w fun e w' => ∃ v S D, e = .returned v ∧ Rep w' v ⟨[], [], [], []⟩ S D ∧ (∀ b, S b → w.heap.size ≤ b) ∧ (∀ b, D b → w.heap.size ≤ b) ∧ Below w.heap.size w w'
/-- Of the project's view only this is used by the laws themselves. -/
structure Vwk (Rep : RepT) : Prop where
  stays : Stays Rep
  new : NewE Rep
  set : ViewL.SetOk Rep
  reads : ReadsOk Rep

/-! ### side by side -/
structure PW (Rep : RepT) (w : World) (v : Value) (L : List Pr) (h : Sh) (S D : Nat → Prop) : Prop where
  rep : Rep w v ⟨[], L, [], []⟩ S D
  row : Ss prE w h L
  off : Off S h
  good : GoodW L
section
variable {Rep : RepT}
theorem lim_n {L : List Pr} : Lim ⟨[], L, [], []⟩ := ⟨by show (0 : Nat) ≤ 100; omega, by show (0 : Nat) ≤ 1000; omega, by show (0 : Nat) ≤ 1000; omega⟩
theorem not_full {L : List Pr} {p : Pr} (h : L.length < 48) : fullW L p = false := by
  unfold fullW
  rw [decide_eq_false (by omega), Bool.and_false]
theorem vs_put {L : List Pr} (h : L.length < 48) (k v : ByteArray) : (⟨[], L, [], []⟩ : Vs).write ⟨k, v, false⟩ = ⟨[], putL k v L, [], []⟩ := by
  unfold Vs.write
  rw [if_neg (by rw [not_full h]; decide)]
  unfold writeW
  rw [show ((⟨k, v, false⟩ : Pr).gone && (getL k []).isNone) = false from rfl, if_neg (by decide), put_putP]
theorem vs_cut {L : List Pr} (h : L.length < 48) (k v : ByteArray) : (⟨[], L, [], []⟩ : Vs).write ⟨k, v, true⟩ = ⟨[], cutL k L, [], []⟩ := by
  unfold Vs.write
  rw [if_neg (by rw [not_full h]; decide)]
  unfold writeW
  rw [show ((⟨k, v, true⟩ : Pr).gone && (getL k []).isNone) = true from rfl, if_pos rfl]
theorem PW.below (hS : Stays Rep) {w w' : World} {v : Value} {L : List Pr} {h : Sh} {S D : Nat → Prop} (p : PW Rep w v L h S D) (hb : Below w.heap.size w w') : PW Rep w' v L h S D :=
  ⟨hS.below p.rep hb, p.row.below hb, p.off, p.good⟩
theorem kept_trans {a b c : World} (h : Kept a b) (k : Kept b c) : Kept a c := fun q cs U fr hU hb => k q cs U fr hU (h q cs U fr hU hb)
theorem cut_len (k : ByteArray) (L : List Pr) : (cutL k L).length ≤ L.length := List.length_filter_le _ _
theorem so_new {w : World} {base n : Nat} {v : Value} {L : List Pr} (s : So prE 79 w base v n L) : ∃ h : Sh, v = h.v ∧ h.n = n ∧ Ss prE w h L ∧ ∀ bb oo, h.a = some ⟨bb, oo, none⟩ → base ≤ bb := by
  obtain ⟨h, rfl, h2, h3⟩ := Ss.of_so s
  refine ⟨h, rfl, h2, h3, fun bb oo e => ?_⟩
  rcases s.form with ⟨e1, _⟩ | ⟨g, cap, e1, h4, _⟩
  · have : h.a = none := by injection e1
    rw [e] at this
    cases this
  · have : h.a = some ⟨g, 0, none⟩ := by injection e1
    rw [e] at this
    injection this with this
    injection this with this
    omega
/-- Behind an operation on both. -/
def DoR (Rep : RepT) (v : Value) (L : List Pr) (h : Sh) (S D : Nat → Prop) (w : World) (e : Ending) (w' : World) : Prop := ∃ S' D' h' L', e = .returned h'.v ∧ PW Rep w' v L' h' S' D' ∧ Stp S D S' D' w w' ∧ L'.length ≤ L.length + 1
theorem do_fin (hS : Stays Rep) {w W w1 w2 : World} {v vv : Value} {L L' : List Pr} {h : Sh} {S D S1 D1 : Nat → Prop} {n : Nat} (hW : Below w.heap.size w W)
    (hr1 : Rep w1 v ⟨[], L', [], []⟩ S1 D1) (st : Stp S D S1 D1 W w1) (hb2 : Below w1.heap.size w1 w2) (so : So prE 79 w2 w1.heap.size vv n L') (hg : GoodW L') (hl : L'.length ≤ L.length + 1) : DoR Rep v L h S D w (.returned vv) w2 := by
  obtain ⟨h', rfl, _, h3, h4⟩ := so_new so
  refine ⟨S1, D1, h', L', rfl, ⟨hS.below hr1 hb2, h3, ?_, hg⟩, ⟨?_, ?_, ?_, ?_⟩, hl⟩
  · exact Off.new (fun b hb => hS.lt hr1 b (hS.sub hr1 b hb)) h4
  · exact ((Chg.of_below hW).trans st.chg).trans (Chg.of_below hb2)
  · exact kept_trans (Kept.of_below hW) (kept_trans st.kept (Kept.of_below hb2))
  · intro b hb
    rcases st.own b hb with h1 | h1
    · exact .inl h1
    · exact .inr (Nat.le_trans hW.size h1)
  · intro b hb
    rcases st.dep b hb with h1 | h1
    · exact .inl h1
    · exact .inr (Nat.le_trans hW.size h1)
/-- A law's operation. -/
structure Op17 where
  kind : Int
  dir : Int
  ino : Int
  name : ByteArray
  k : Int
  l : Int
  s : Int
  p : Int
def opE : Enc Op17 := ⟨fun x => [.int .i64 x.kind, .int .u32 x.dir, .int .u32 x.ino, .string x.name, .int .u8 x.k, .int .u32 x.l, .int .u32 x.s, .int .u32 x.p], 8, fun _ => rfl, fun x u hu => by
  simp at hu
  rcases hu with rfl | rfl | rfl | rfl | rfl | rfl | rfl | rfl <;> rfl, by omega⟩
structure OpB (x : Op17) : Prop where
  k0 : -9223372036854775808 ≤ x.kind
  k1 : x.kind ≤ 9223372036854775807
  d0 : 0 ≤ x.dir
  d1 : x.dir ≤ 4294967295
  i0 : 0 ≤ x.ino
  i1 : x.ino ≤ 4294967295
  nm : x.name.size ≤ 9223372036854775807
  nd : InoB x.k x.l x.s x.p
end
end Go.Proofs.YtbdokofdbeccdaaDoor.WalkL

/- Layer 17's do: an operation on a view and on a row of pairs. -/
namespace Go.Proofs.YtbdokofdbeccdaaDoor.WalkD
set_option linter.unusedVariables false
set_option linter.unusedSimpArgs false
open Go.RowKit
open Go.Proofs.YtbdokofdbeccdaaDoor.Byte Go.Proofs.YtbdokofdbeccdaaDoor.KeysM Go.Proofs.YtbdokofdbeccdaaDoor.KeysR Go.Proofs.YtbdokofdbeccdaaDoor.TreeM Go.Proofs.YtbdokofdbeccdaaDoor.ViewM Go.Proofs.YtbdokofdbeccdaaDoor.NodeM Go.Proofs.YtbdokofdbeccdaaDoor.WalkM Go.Proofs.YtbdokofdbeccdaaDoor.Rw Go.Proofs.YtbdokofdbeccdaaDoor.Lst Go.Proofs.YtbdokofdbeccdaaDoor.Chg Go.Proofs.YtbdokofdbeccdaaDoor.TreeR Go.Proofs.YtbdokofdbeccdaaDoor.TreeS Go.Proofs.YtbdokofdbeccdaaDoor.TreeL Go.Proofs.YtbdokofdbeccdaaDoor.TreeG Go.Proofs.YtbdokofdbeccdaaDoor.TreeH Go.Proofs.YtbdokofdbeccdaaDoor.ViewR Go.Proofs.YtbdokofdbeccdaaDoor.ViewL Go.Proofs.YtbdokofdbeccdaaDoor.ViewP Go.Proofs.YtbdokofdbeccdaaDoor.WalkR Go.Proofs.YtbdokofdbeccdaaDoor.WalkL
open Go.Proofs.YtbdokofdbeccdaaDoor.Own hiding keeps
variable {Rep : RepT}
theorem blk_chg {w w' : World} {S : Nat → Prop} {b : Nat} {cs : Array Value} {T : TypeId} (h : Blk w b cs T) (k : Chg S w w') (hn : ¬ S b) : Blk w' b cs T := (k.block b h.lt hn).trans h
theorem cells8 {W : World} {b : Nat} {x0 x1 x2 x3 x4 x5 x6 x7 : Value} {T : TypeId} (h : Blk W b #[x0, x1, x2, x3, x4, x5, x6, x7] T) : W.cell? ⟨b, 0, none⟩ = some x0 ∧ W.cell? ⟨b, 1, none⟩ = some x1 ∧ W.cell? ⟨b, 2, none⟩ = some x2 ∧ W.cell? ⟨b, 3, none⟩ = some x3 ∧ W.cell? ⟨b, 4, none⟩ = some x4 ∧ W.cell? ⟨b, 5, none⟩ = some x5 ∧ W.cell? ⟨b, 6, none⟩ = some x6 ∧ W.cell? ⟨b, 7, none⟩ = some x7 :=
  ⟨h.cell 0, h.cell 1, h.cell 2, h.cell 3, h.cell 4, h.cell 5, h.cell 6, h.cell 7⟩
theorem letter_I {ino : Int} (h0 : 0 ≤ ino) (h1 : ino ≤ 4294967295) : (sp (kI ino)).letter ≠ 0 := by
  rw [sp_I ino h0 h1]
  show (73 : Int) ≠ 0
  decide
theorem letter_E {dir : Int} {name : ByteArray} (h0 : 0 ≤ dir) (h1 : dir ≤ 4294967295) (hn : goodN name) : (sp (kE dir name)).letter ≠ 0 := by
  rw [sp_E dir name h0 h1 hn.1 hn.2]
  show (69 : Int) ≠ 0
  decide
set_option maxRecDepth 100000 in
set_option maxHeartbeats 4000000 in
theorem do_save (hS : Stays Rep) (hX : SaveOk Rep) (v : Value) (L : List Pr) (h : Sh) (S D : Nat → Prop) (dir ino : Int) (name : ByteArray) (k l s p : Int) (w : World) (pw : PW Rep w v L h S D) (hl : L.length < 45) (d0 : 0 ≤ dir) (d1 : dir ≤ 4294967295) (i0 : 0 ≤ ino) (i1 : ino ≤ 4294967295) (hn : goodN name) (hi : InoB k l s p) :
    Calls Tryd.prog 9 #[v, .slice h.a h.n h.c, .agg #[.int .i64 0, .int .u32 dir, .int .u32 ino, .string name, .int .u8 k, .int .u32 l, .int .u32 s, .int .u32 p]] w (DoR Rep v L h S D w) := by
  have HBW := Lib.hid ((Below.refl w.heap.size w).alloc (Nat.le_refl _) (.cells #[.int .i64 0, .int .u32 dir, .int .u32 ino, .string name, .int .u8 k, .int .u32 l, .int .u32 s, .int .u32 p] 34))
  have HXB := Lib.hid (Blk.new_ w #[.int .i64 0, .int .u32 dir, .int .u32 ino, .string name, .int .u8 k, .int .u32 l, .int .u32 s, .int .u32 p] 34)
  have hnS : ¬ S w.heap.size := fun hh => by
    have := hS.lt pw.rep _ (hS.sub pw.rep _ hh)
    omega
  have HNS := Lib.hid hnS
  have HPW := Lib.hid (pw.below hS HBW.out)
  have HG := Lib.hid pw.good
  have hln : L.length ≤ 1000 := by omega
  have hlh : L.length = h.n := pw.row.1.1
  have hhn : h.n ≤ 1000 := by omega
  have hnm : name.size ≤ 100000 := by have := hn.2; omega
  have hv := hX ino k l s p HPW.out.rep lim_n i0 i1 hi
  rw [vs_put (by omega)] at hv
  dsimp only at hv
  rw [not_full (L := L) (by omega)] at hv
  have HVV := Lib.hid hv
  have HVD := (fun w1 (hr : Sl prE w1 h.a h.n L) => refsave_calls h.a h.n h.c L ino k l s p w1 hr hhn HG.out.rise i0 i1 hi.k0 hi.k1 hi.l0 hi.l1 hi.s0 hi.s1 hi.p0 hi.p1)
  clear hv
  have HD := Lib.hid HVD
  have HSS := Lib.hid hS
  have HLN := Lib.hid (show (putL (kI ino) (nput k l s p) L).length ≤ L.length + 1 from put_len _ _ _)
  have HGD := Lib.hid (show GoodW (putL (kI ino) (nput k l s p) L) from HG.out.put (letter_I i0 i1))
  clear HVD hX hS pw hnS hlh hln hn
  obtain ⟨ha, hn', hc⟩ := h
  go_enter Tryd.func9, Tryd.ntmps9
  go_wp2_with fail
  refine HVV.out.mono ?_
  rintro e w1 ⟨S1, D1, rfl, hr1, hst⟩
  have HR1 := Lib.hid hr1
  have HST := Lib.hid hst
  have HX1 := Lib.hid (blk_chg HXB.out hst.chg HNS.out)
  have HROW := Lib.hid (ss_chg HPW.out.row hst.chg HPW.out.off).1
  obtain ⟨b0, b1, b2, b3, b4, b5, b6, b7⟩ := cells8 HX1.out
  clear hr1 hst
  go_wp2_with fail
  refine (HD.out w1 HROW.out).mono ?_
  rintro e w3 ⟨vv, rfl, hso, hb3⟩
  have HB3 := Lib.hid (hb3)
  have HSO := Lib.hid (hso.lower (Nat.le_refl _))
  clear hso hb3
  go_wp2_with fail
  go_ret
  exact do_fin HSS.out HBW.out HR1.out HST.out HB3.out HSO.out HGD.out HLN.out
set_option maxRecDepth 100000 in
set_option maxHeartbeats 4000000 in
theorem do_drop (hS : Stays Rep) (hX : DropOk Rep) (v : Value) (L : List Pr) (h : Sh) (S D : Nat → Prop) (dir ino : Int) (name : ByteArray) (k l s p : Int) (w : World) (pw : PW Rep w v L h S D) (hl : L.length < 45) (d0 : 0 ≤ dir) (d1 : dir ≤ 4294967295) (i0 : 0 ≤ ino) (i1 : ino ≤ 4294967295) (hn : goodN name) (hi : InoB k l s p) :
    Calls Tryd.prog 9 #[v, .slice h.a h.n h.c, .agg #[.int .i64 1, .int .u32 dir, .int .u32 ino, .string name, .int .u8 k, .int .u32 l, .int .u32 s, .int .u32 p]] w (DoR Rep v L h S D w) := by
  have HBW := Lib.hid ((Below.refl w.heap.size w).alloc (Nat.le_refl _) (.cells #[.int .i64 1, .int .u32 dir, .int .u32 ino, .string name, .int .u8 k, .int .u32 l, .int .u32 s, .int .u32 p] 34))
  have HXB := Lib.hid (Blk.new_ w #[.int .i64 1, .int .u32 dir, .int .u32 ino, .string name, .int .u8 k, .int .u32 l, .int .u32 s, .int .u32 p] 34)
  have hnS : ¬ S w.heap.size := fun hh => by
    have := hS.lt pw.rep _ (hS.sub pw.rep _ hh)
    omega
  have HNS := Lib.hid hnS
  have HPW := Lib.hid (pw.below hS HBW.out)
  have HG := Lib.hid pw.good
  have hln : L.length ≤ 1000 := by omega
  have hlh : L.length = h.n := pw.row.1.1
  have hhn : h.n ≤ 1000 := by omega
  have hnm : name.size ≤ 100000 := by have := hn.2; omega
  have hv := hX ino HPW.out.rep lim_n i0 i1
  rw [vs_cut (by omega)] at hv
  dsimp only at hv
  rw [not_full (L := L) (by omega)] at hv
  have HVV := Lib.hid hv
  have HI := Lib.hid (fun w => refI_calls ino w i0 i1)
  have HVD := (fun w1 (hr : Sl prE w1 h.a h.n L) => refcut_calls h.a h.n h.c L (kI ino) w1 hr (by omega))
  clear hv
  have HD := Lib.hid HVD
  have HSS := Lib.hid hS
  have HLN := Lib.hid (show (cutL (kI ino) L).length ≤ L.length + 1 from Nat.le_succ_of_le (cut_len _ _))
  have HGD := Lib.hid (show GoodW (cutL (kI ino) L) from HG.out.cut _)
  clear HVD hX hS pw hnS hlh hln hn
  obtain ⟨ha, hn', hc⟩ := h
  go_enter Tryd.func9, Tryd.ntmps9
  go_wp2_with fail
  refine HVV.out.mono ?_
  rintro e w1 ⟨S1, D1, rfl, hr1, hst⟩
  have HR1 := Lib.hid hr1
  have HST := Lib.hid hst
  have HX1 := Lib.hid (blk_chg HXB.out hst.chg HNS.out)
  have HROW := Lib.hid (ss_chg HPW.out.row hst.chg HPW.out.off).1
  obtain ⟨b0, b1, b2, b3, b4, b5, b6, b7⟩ := cells8 HX1.out
  clear hr1 hst
  go_wp2_with fail
  refine (HI.out _).mono ?_
  rintro e w2 ⟨rfl, hb2⟩
  have HB2 := Lib.hid hb2
  clear hb2
  go_wp2_with fail
  refine (HD.out w2 (HROW.out.below HB2.out)).mono ?_
  rintro e w3 ⟨vv, rfl, hso, hb3⟩
  have HB3 := Lib.hid (keeps HB2.out hb3)
  have HSO := Lib.hid (hso.lower (HB2.out.size))
  clear hso hb3
  go_wp2_with fail
  go_ret
  exact do_fin HSS.out HBW.out HR1.out HST.out HB3.out HSO.out HGD.out HLN.out
set_option maxRecDepth 100000 in
set_option maxHeartbeats 4000000 in
theorem do_hang (hS : Stays Rep) (hX : HangOk Rep) (v : Value) (L : List Pr) (h : Sh) (S D : Nat → Prop) (dir ino : Int) (name : ByteArray) (k l s p : Int) (w : World) (pw : PW Rep w v L h S D) (hl : L.length < 45) (d0 : 0 ≤ dir) (d1 : dir ≤ 4294967295) (i0 : 0 ≤ ino) (i1 : ino ≤ 4294967295) (hn : goodN name) (hi : InoB k l s p) :
    Calls Tryd.prog 9 #[v, .slice h.a h.n h.c, .agg #[.int .i64 2, .int .u32 dir, .int .u32 ino, .string name, .int .u8 k, .int .u32 l, .int .u32 s, .int .u32 p]] w (DoR Rep v L h S D w) := by
  have HBW := Lib.hid ((Below.refl w.heap.size w).alloc (Nat.le_refl _) (.cells #[.int .i64 2, .int .u32 dir, .int .u32 ino, .string name, .int .u8 k, .int .u32 l, .int .u32 s, .int .u32 p] 34))
  have HXB := Lib.hid (Blk.new_ w #[.int .i64 2, .int .u32 dir, .int .u32 ino, .string name, .int .u8 k, .int .u32 l, .int .u32 s, .int .u32 p] 34)
  have hnS : ¬ S w.heap.size := fun hh => by
    have := hS.lt pw.rep _ (hS.sub pw.rep _ hh)
    omega
  have HNS := Lib.hid hnS
  have HPW := Lib.hid (pw.below hS HBW.out)
  have HG := Lib.hid pw.good
  have hln : L.length ≤ 1000 := by omega
  have hlh : L.length = h.n := pw.row.1.1
  have hhn : h.n ≤ 1000 := by omega
  have hnm : name.size ≤ 100000 := by have := hn.2; omega
  have hv := hX dir name ino HPW.out.rep lim_n d0 d1 i0 i1 hnm
  rw [vs_put (by omega)] at hv
  dsimp only at hv
  rw [not_full (L := L) (by omega)] at hv
  have HVV := Lib.hid hv
  have HVD := (fun w1 (hr : Sl prE w1 h.a h.n L) => refhang_calls h.a h.n h.c L dir ino name w1 hr hhn HG.out.rise d0 d1 i0 i1 hnm)
  clear hv
  have HD := Lib.hid HVD
  have HSS := Lib.hid hS
  have HLN := Lib.hid (show (putL (kE dir name) (hangV ino) L).length ≤ L.length + 1 from put_len _ _ _)
  have HGD := Lib.hid (show GoodW (putL (kE dir name) (hangV ino) L) from HG.out.put (letter_E d0 d1 hn))
  clear HVD hX hS pw hnS hlh hln hn
  obtain ⟨ha, hn', hc⟩ := h
  go_enter Tryd.func9, Tryd.ntmps9
  go_wp2_with fail
  refine HVV.out.mono ?_
  rintro e w1 ⟨S1, D1, rfl, hr1, hst⟩
  have HR1 := Lib.hid hr1
  have HST := Lib.hid hst
  have HX1 := Lib.hid (blk_chg HXB.out hst.chg HNS.out)
  have HROW := Lib.hid (ss_chg HPW.out.row hst.chg HPW.out.off).1
  obtain ⟨b0, b1, b2, b3, b4, b5, b6, b7⟩ := cells8 HX1.out
  clear hr1 hst
  go_wp2_with fail
  refine (HD.out w1 HROW.out).mono ?_
  rintro e w3 ⟨vv, rfl, hso, hb3⟩
  have HB3 := Lib.hid (hb3)
  have HSO := Lib.hid (hso.lower (Nat.le_refl _))
  clear hso hb3
  go_wp2_with fail
  go_ret
  exact do_fin HSS.out HBW.out HR1.out HST.out HB3.out HSO.out HGD.out HLN.out
set_option maxRecDepth 100000 in
set_option maxHeartbeats 4000000 in
theorem do_unhang (hS : Stays Rep) (hX : UnhangOk Rep) (v : Value) (L : List Pr) (h : Sh) (S D : Nat → Prop) (dir ino : Int) (name : ByteArray) (k l s p : Int) (w : World) (pw : PW Rep w v L h S D) (hl : L.length < 45) (d0 : 0 ≤ dir) (d1 : dir ≤ 4294967295) (i0 : 0 ≤ ino) (i1 : ino ≤ 4294967295) (hn : goodN name) (hi : InoB k l s p) :
    Calls Tryd.prog 9 #[v, .slice h.a h.n h.c, .agg #[.int .i64 3, .int .u32 dir, .int .u32 ino, .string name, .int .u8 k, .int .u32 l, .int .u32 s, .int .u32 p]] w (DoR Rep v L h S D w) := by
  have HBW := Lib.hid ((Below.refl w.heap.size w).alloc (Nat.le_refl _) (.cells #[.int .i64 3, .int .u32 dir, .int .u32 ino, .string name, .int .u8 k, .int .u32 l, .int .u32 s, .int .u32 p] 34))
  have HXB := Lib.hid (Blk.new_ w #[.int .i64 3, .int .u32 dir, .int .u32 ino, .string name, .int .u8 k, .int .u32 l, .int .u32 s, .int .u32 p] 34)
  have hnS : ¬ S w.heap.size := fun hh => by
    have := hS.lt pw.rep _ (hS.sub pw.rep _ hh)
    omega
  have HNS := Lib.hid hnS
  have HPW := Lib.hid (pw.below hS HBW.out)
  have HG := Lib.hid pw.good
  have hln : L.length ≤ 1000 := by omega
  have hlh : L.length = h.n := pw.row.1.1
  have hhn : h.n ≤ 1000 := by omega
  have hnm : name.size ≤ 100000 := by have := hn.2; omega
  have hv := hX dir name HPW.out.rep lim_n d0 d1 hnm
  rw [vs_cut (by omega)] at hv
  dsimp only at hv
  rw [not_full (L := L) (by omega)] at hv
  have HVV := Lib.hid hv
  have HI := Lib.hid (fun w => refE_calls dir name w (by unfold maxLen; omega) d0 d1)
  have HVD := (fun w1 (hr : Sl prE w1 h.a h.n L) => refcut_calls h.a h.n h.c L (kE dir name) w1 hr (by omega))
  clear hv
  have HD := Lib.hid HVD
  have HSS := Lib.hid hS
  have HLN := Lib.hid (show (cutL (kE dir name) L).length ≤ L.length + 1 from Nat.le_succ_of_le (cut_len _ _))
  have HGD := Lib.hid (show GoodW (cutL (kE dir name) L) from HG.out.cut _)
  clear HVD hX hS pw hnS hlh hln hn
  obtain ⟨ha, hn', hc⟩ := h
  go_enter Tryd.func9, Tryd.ntmps9
  go_wp2_with fail
  refine HVV.out.mono ?_
  rintro e w1 ⟨S1, D1, rfl, hr1, hst⟩
  have HR1 := Lib.hid hr1
  have HST := Lib.hid hst
  have HX1 := Lib.hid (blk_chg HXB.out hst.chg HNS.out)
  have HROW := Lib.hid (ss_chg HPW.out.row hst.chg HPW.out.off).1
  obtain ⟨b0, b1, b2, b3, b4, b5, b6, b7⟩ := cells8 HX1.out
  clear hr1 hst
  go_wp2_with fail
  refine (HI.out _).mono ?_
  rintro e w2 ⟨rfl, hb2⟩
  have HB2 := Lib.hid hb2
  clear hb2
  go_wp2_with fail
  refine (HD.out w2 (HROW.out.below HB2.out)).mono ?_
  rintro e w3 ⟨vv, rfl, hso, hb3⟩
  have HB3 := Lib.hid (keeps HB2.out hb3)
  have HSO := Lib.hid (hso.lower (HB2.out.size))
  clear hso hb3
  go_wp2_with fail
  go_ret
  exact do_fin HSS.out HBW.out HR1.out HST.out HB3.out HSO.out HGD.out HLN.out
set_option maxRecDepth 100000 in
set_option maxHeartbeats 4000000 in
theorem do_raw (hS : Stays Rep) (hX : ViewL.SetOk Rep) (v : Value) (L : List Pr) (h : Sh) (S D : Nat → Prop) (kind dir ino : Int) (name : ByteArray) (k l s p : Int) (w : World) (pw : PW Rep w v L h S D) (hl : L.length < 45) (d0 : 0 ≤ dir) (d1 : dir ≤ 4294967295) (i0 : 0 ≤ ino) (i1 : ino ≤ 4294967295) (hn : goodN name) (hi : InoB k l s p) (h0 : kind ≠ 0) (h1 : kind ≠ 1) (h2 : kind ≠ 2) (h3 : kind ≠ 3) :
    Calls Tryd.prog 9 #[v, .slice h.a h.n h.c, .agg #[.int .i64 kind, .int .u32 dir, .int .u32 ino, .string name, .int .u8 k, .int .u32 l, .int .u32 s, .int .u32 p]] w (DoR Rep v L h S D w) := by
  have HBW := Lib.hid ((Below.refl w.heap.size w).alloc (Nat.le_refl _) (.cells #[.int .i64 kind, .int .u32 dir, .int .u32 ino, .string name, .int .u8 k, .int .u32 l, .int .u32 s, .int .u32 p] 34))
  have HXB := Lib.hid (Blk.new_ w #[.int .i64 kind, .int .u32 dir, .int .u32 ino, .string name, .int .u8 k, .int .u32 l, .int .u32 s, .int .u32 p] 34)
  have hnS : ¬ S w.heap.size := fun hh => by
    have := hS.lt pw.rep _ (hS.sub pw.rep _ hh)
    omega
  have HNS := Lib.hid hnS
  have HPW := Lib.hid (pw.below hS HBW.out)
  have HG := Lib.hid pw.good
  have hln : L.length ≤ 1000 := by omega
  have hlh : L.length = h.n := pw.row.1.1
  have hhn : h.n ≤ 1000 := by omega
  have hnm : name.size ≤ 100000 := by have := hn.2; omega
  have HVV := Lib.hid (fun w0 (hb : Below (w.alloc (.cells #[.int .i64 kind, .int .u32 dir, .int .u32 ino, .string name, .int .u8 k, .int .u32 l, .int .u32 s, .int .u32 p] 34)).heap.size (w.alloc (.cells #[.int .i64 kind, .int .u32 dir, .int .u32 ino, .string name, .int .u8 k, .int .u32 l, .int .u32 s, .int .u32 p] 34)) w0) => by
    have hv := hX (kE dir name) ⟨#[114, 97, 119]⟩ (HPW.out.below hS hb).rep lim_n (by rw [kE]; split; decide; rw [ByteArray.size_append, ks_size]; omega) (by decide)
    rw [vs_put (by omega)] at hv
    dsimp only at hv
    rw [not_full (L := L) (by omega)] at hv
    exact hv)
  have HI := Lib.hid (fun w => refE_calls dir name w (by unfold maxLen; omega) d0 d1)
  have HVD := (fun w1 (hr : Sl prE w1 h.a h.n L) => refset_calls h.a h.n h.c L (kE dir name) ⟨#[114, 97, 119]⟩ w1 hr (by omega) HG.out.rise)
  have e0 : (kind == 0) = false := by rw [beq_eq_false_iff_ne]; exact h0
  have e1 : (kind == 1) = false := by rw [beq_eq_false_iff_ne]; exact h1
  have e2 : (kind == 2) = false := by rw [beq_eq_false_iff_ne]; exact h2
  have e3 : (kind == 3) = false := by rw [beq_eq_false_iff_ne]; exact h3
  clear h0 h1 h2 h3
  have HD := Lib.hid HVD
  have HSS := Lib.hid hS
  have HLN := Lib.hid (show (putL (kE dir name) ⟨#[114, 97, 119]⟩ L).length ≤ L.length + 1 from put_len _ _ _)
  have HGD := Lib.hid (show GoodW (putL (kE dir name) ⟨#[114, 97, 119]⟩ L) from HG.out.put (letter_E d0 d1 hn))
  clear HVD hX hS pw hnS hlh hln hn
  obtain ⟨ha, hn', hc⟩ := h
  go_enter Tryd.func9, Tryd.ntmps9
  go_wp2_with fail
  refine (HI.out _).mono ?_
  rintro e w0 ⟨rfl, hb0⟩
  have HB0 := Lib.hid hb0
  have HXC := Lib.hid (HXB.out.below hb0)
  have HPC := Lib.hid (HPW.out.below HSS.out hb0)
  clear hb0
  go_wp2_with fail
  refine (HVV.out _ HB0.out).mono ?_
  rintro e w1 ⟨S1, D1, rfl, hr1, hst⟩
  have HR1 := Lib.hid hr1
  have HST := Lib.hid hst
  have HX1 := Lib.hid (blk_chg HXC.out hst.chg HNS.out)
  have HROW := Lib.hid (ss_chg HPC.out.row hst.chg HPC.out.off).1
  obtain ⟨b0, b1, b2, b3, b4, b5, b6, b7⟩ := cells8 HX1.out
  clear hr1 hst
  go_wp2_with fail
  refine (HI.out _).mono ?_
  rintro e w2 ⟨rfl, hb2⟩
  have HB2 := Lib.hid hb2
  clear hb2
  go_wp2_with fail
  refine (HD.out w2 (HROW.out.below HB2.out)).mono ?_
  rintro e w3 ⟨vv, rfl, hso, hb3⟩
  have HB3 := Lib.hid (keeps HB2.out hb3)
  have HSO := Lib.hid (hso.lower (HB2.out.size))
  clear hso hb3
  go_wp2_with fail
  go_ret
  exact do_fin HSS.out (keeps HBW.out HB0.out) HR1.out HST.out HB3.out HSO.out HGD.out HLN.out
structure Wks (Rep : RepT) : Prop where
  save : SaveOk Rep
  drop : DropOk Rep
  hang : HangOk Rep
  unhang : UnhangOk Rep
  child : ChildOk Rep
  list : ListOk Rep
theorem do_calls (hV : Vwk Rep) (hW : Wks Rep) (v : Value) (L : List Pr) (h : Sh) (S D : Nat → Prop) (o : Op17) (w : World) (pw : PW Rep w v L h S D) (hl : L.length < 45) (ob : OpB o) (hn : goodN o.name) :
    Calls Tryd.prog 9 #[v, .slice h.a h.n h.c, .agg #[.int .i64 o.kind, .int .u32 o.dir, .int .u32 o.ino, .string o.name, .int .u8 o.k, .int .u32 o.l, .int .u32 o.s, .int .u32 o.p]] w (DoR Rep v L h S D w) := by
  obtain ⟨kind, dir, ino, name, k, l, s, p⟩ := o
  obtain ⟨_, _, d0, d1, i0, i1, _, hi⟩ := ob
  dsimp only at *
  by_cases h0 : kind = 0
  · subst h0
    exact do_save hV.stays hW.save v L h S D dir ino name k l s p w pw hl d0 d1 i0 i1 hn hi
  by_cases h1 : kind = 1
  · subst h1
    exact do_drop hV.stays hW.drop v L h S D dir ino name k l s p w pw hl d0 d1 i0 i1 hn hi
  by_cases h2 : kind = 2
  · subst h2
    exact do_hang hV.stays hW.hang v L h S D dir ino name k l s p w pw hl d0 d1 i0 i1 hn hi
  by_cases h3 : kind = 3
  · subst h3
    exact do_unhang hV.stays hW.unhang v L h S D dir ino name k l s p w pw hl d0 d1 i0 i1 hn hi
  exact do_raw hV.stays hV.set v L h S D kind dir ino name k l s p w pw hl d0 d1 i0 i1 hn hi h0 h1 h2 h3
end Go.Proofs.YtbdokofdbeccdaaDoor.WalkD
