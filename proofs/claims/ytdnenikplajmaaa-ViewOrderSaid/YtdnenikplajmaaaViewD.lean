/- Layer 14's laws: an operation of the project's view, and of the document's: both answer alike, and stand alike behind it. -/
import Derived.Test.YtdnenikplajmaaaViewB
namespace Go.Proofs.Ytdnenikplajmaaa.ViewD
set_option linter.unusedVariables false
set_option linter.unusedSimpArgs false
open Go.RowKit
open Go.Proofs.Ytdnenikplajmaaa.Byte Go.Proofs.Ytdnenikplajmaaa.KeysM Go.Proofs.Ytdnenikplajmaaa.TreeM Go.Proofs.Ytdnenikplajmaaa.ViewM Go.Proofs.Ytdnenikplajmaaa.Own Go.Proofs.Ytdnenikplajmaaa.Rw Go.Proofs.Ytdnenikplajmaaa.Lst Go.Proofs.Ytdnenikplajmaaa.Chg Go.Proofs.Ytdnenikplajmaaa.TreeR Go.Proofs.Ytdnenikplajmaaa.TreeS Go.Proofs.Ytdnenikplajmaaa.TreeL Go.Proofs.Ytdnenikplajmaaa.TreeG Go.Proofs.Ytdnenikplajmaaa.TreeH Go.Proofs.Ytdnenikplajmaaa.Ho Go.Proofs.Ytdnenikplajmaaa.ViewR Go.Proofs.Ytdnenikplajmaaa.ViewG Go.Proofs.Ytdnenikplajmaaa.ViewW Go.Proofs.Ytdnenikplajmaaa.ViewWa Go.Proofs.Ytdnenikplajmaaa.ViewS Go.Proofs.Ytdnenikplajmaaa.ViewL Go.Proofs.Ytdnenikplajmaaa.ViewF Go.Proofs.Ytdnenikplajmaaa.ViewB
variable {Rep : World → Value → Vs → (Nat → Prop) → (Nat → Prop) → Prop}

/-- How both stand behind an operation. -/
def doS (s : Vs) (o : Op14) : Vs := if o.kind = 0 then s.read o.key else if o.kind = 1 then s else if o.kind = 2 then s.ranged o.key o.value else if o.kind = 3 then s.write ⟨o.key, o.value, false⟩ else if o.kind = 4 then s.write ⟨o.key, ⟨#[]⟩, true⟩ else s
theorem Kept.trans {a b c : World} (h : Kept a b) (k : Kept b c) : Kept a c := fun q cs U fr hU hb => k q cs U fr hU (h q cs U fr hU hb)
theorem kept_set {W : World} {r : Nat} {cs : Array Value} {T : TypeId} (h : Blk W r cs T) (hne : 80 ≠ T ∧ 75 ≠ T) (i : Nat) (u : Value) : Kept W (W.setCell ⟨r, i, none⟩ u) := fun q cs' U fr hU hb => by
  by_cases e : q = r
  · subst e
    unfold Blk at h
    rw [h] at hb
    injection hb with hb
    injection hb with _ hT _
    subst hT
    rcases hU with h1 | h1
    · exact absurd h1.symm hne.1
    · exact absurd h1.symm hne.2
  · exact (Below.heap_setCell W ⟨r, i, none⟩ u q e).trans hb
theorem put4 {W : World} {r : Nat} {T : TypeId} (h : Blk W r zeroV T) (hne : 80 ≠ T ∧ 75 ≠ T) (a b c d : Value) :
    Chg (fun k => k = r) W ((((W.setCell ⟨r, 0, none⟩ a).setCell ⟨r, 1, none⟩ b).setCell ⟨r, 2, none⟩ c).setCell ⟨r, 3, none⟩ d).drew ∧ Kept W ((((W.setCell ⟨r, 0, none⟩ a).setCell ⟨r, 1, none⟩ b).setCell ⟨r, 2, none⟩ c).setCell ⟨r, 3, none⟩ d).drew ∧ Blk ((((W.setCell ⟨r, 0, none⟩ a).setCell ⟨r, 1, none⟩ b).setCell ⟨r, 2, none⟩ c).setCell ⟨r, 3, none⟩ d).drew r #[a, b, c, d] T := by
  have h1 := h.set_ 0 a
  have h2 := h1.set_ 1 b
  have h3 := h2.set_ 2 c
  have h4 := h3.set_ 3 d
  refine ⟨(((((Chg.refl (fun k => k = r) W).setCell (.inl rfl) _).setCell (.inl rfl) _).setCell (.inl rfl) _).setCell (.inl rfl) _).drew, ?_, h4.drew⟩
  exact Kept.trans (kept_set h hne 0 a) (Kept.trans (kept_set h1 hne 1 b) (Kept.trans (kept_set h2 hne 2 c) (Kept.trans (kept_set h3 hne 3 d) (fun _ _ _ _ _ hb => hb))))
theorem put4n {W : World} {r : Nat} {T : TypeId} (h : Blk W r zeroV T) (hne : 80 ≠ T ∧ 75 ≠ T) (a b c d : Value) :
    Chg (fun k => k = r) W ((((W.setCell ⟨r, 0, none⟩ a).setCell ⟨r, 1, none⟩ b).setCell ⟨r, 2, none⟩ c).setCell ⟨r, 3, none⟩ d) ∧ Kept W ((((W.setCell ⟨r, 0, none⟩ a).setCell ⟨r, 1, none⟩ b).setCell ⟨r, 2, none⟩ c).setCell ⟨r, 3, none⟩ d) ∧ Blk ((((W.setCell ⟨r, 0, none⟩ a).setCell ⟨r, 1, none⟩ b).setCell ⟨r, 2, none⟩ c).setCell ⟨r, 3, none⟩ d) r #[a, b, c, d] T := by
  have h1 := h.set_ 0 a
  have h2 := h1.set_ 1 b
  have h3 := h2.set_ 2 c
  have h4 := h3.set_ 3 d
  refine ⟨(((((Chg.refl (fun k => k = r) W).setCell (.inl rfl) _).setCell (.inl rfl) _).setCell (.inl rfl) _).setCell (.inl rfl) _), ?_, h4⟩
  exact Kept.trans (kept_set h hne 0 a) (Kept.trans (kept_set h1 hne 1 b) (Kept.trans (kept_set h2 hne 2 c) (Kept.trans (kept_set h3 hne 3 d) (fun _ _ _ _ _ hb => hb))))
theorem blk_chg {S : Nat → Prop} {w w' : World} {g : Nat} {cs : Array Value} {t : TypeId} (h : Blk w g cs t) (k : Chg S w w') (hg : ¬ S g) : Blk w' g cs t := (k.block g h.lt hg).trans h
theorem off_old {α : Type} {e : Enc α} {w : World} {h : Sh} {L : List α} {r : Nat} (s : Ss e w h L) (hr : w.heap.size ≤ r) : Off (fun k => k = r) h := fun hn b o e hb => by
  obtain ⟨b', o', e', hlt⟩ := sl_lt s.1 hn
  rw [e] at e'
  injection e' with e'
  injection e' with e1 _
  omega
theorem off_new {w : World} {h : Sh} {r : Nat} (hA : NewA w h) (hr : r < w.heap.size) : Off (fun k => k = r) h := fun hn b o e hb => by
  have := hA b o e
  omega
theorem off_either {α : Type} {e : Enc α} {w w1 : World} {h h' : Sh} {L : List α} {r : Nat} (s : Ss e w h L) (hr : w.heap.size ≤ r) (hr1 : r < w1.heap.size) (he : h' = h ∨ NewA w1 h') : Off (fun k => k = r) h' := by
  rcases he with rfl | he
  · exact off_old s hr
  · exact off_new he hr1
theorem either_mono {w w1 : World} {h h' : Sh} (he : h' = h ∨ NewA w1 h') (hs : w.heap.size ≤ w1.heap.size) : h' = h ∨ NewA w h' := by
  rcases he with he | he
  · exact .inl he
  · exact .inr fun bb oo hh => Nat.le_trans hs (he bb oo hh)
theorem off_eithers {S : Nat → Prop} {w : World} {h h' : Sh} (ho : Off S h) (hS : ∀ b, S b → b < w.heap.size) (he : h' = h ∨ NewA w h') : Off S h' := by
  rcases he with rfl | he
  · exact ho
  · exact Off.new hS he
theorem grow_mono {w w' : World} {S S' : Nat → Prop} (h : Grow w' S S') (hs : w.heap.size ≤ w'.heap.size) : Grow w S S' := fun b hb => by
  rcases h b hb with h1 | h1
  · exact .inl h1
  · exact .inr (by omega)
theorem not_in {n : Nat} {W0 : World} {D D' : Nat → Prop} (g : Grow W0 D D') (hlt : ∀ b, D b → b < n) (hz : W0.heap.size = n + 3) (i : Nat) (hi : i < 3) : ¬ D' (n + i) := fun h => by
  rcases g _ h with h1 | h1
  · have := hlt _ h1
    omega
  · omega
theorem got_inj {o : Option Pr} {x x' : ByteArray} {y y' : Bool} (h : GotV o = .tuple #[.string x, .bool y]) (h' : GotV o = .tuple #[.string x', .bool y']) : x = x' ∧ y = y' := by
  rw [h] at h'
  injection h' with h'
  simp only [Array.mk.injEq, List.cons.injEq, Value.string.injEq, Value.bool.injEq, and_true] at h'
  exact h'
/-- The operation answers that both answer alike; how both stand behind it. -/
def DoR (Rep : World → Value → Vs → (Nat → Prop) → (Nat → Prop) → Prop) (v : Value) (s' : Vs) (b wt rd rg : Sh) (S D : Nat → Prop) (w : World) (e : Ending) (w' : World) : Prop := ∃ (wt' rd' rg' : Sh) (S' D' : Nat → Prop), e = .returned (.tuple #[.bool true, .agg #[.slice b.a b.n b.c, .slice wt'.a wt'.n wt'.c, .slice rd'.a rd'.n rd'.c, .slice rg'.a rg'.n rg'.c]]) ∧ Rep w' v s' S' D' ∧ DvF w' s' b wt' rd' rg' S' ∧ Stp S D S' D' w w' ∧ (wt' = wt ∨ NewA w wt') ∧ (rd' = rd ∨ NewA w rd') ∧ (rg' = rg ∨ NewA w rg')
/-- Behind the last store. -/
theorem fin (hS : Stays Rep) {w W0 W : World} {v : Value} {s' : Vs} {b wt rd rg wt0 rd0 rg0 : Sh} {S D S' D' : Nat → Prop} (hA : Below w.heap.size w W0) (hz : W0.heap.size = w.heap.size + 3) (hlt : ∀ b, D b → b < w.heap.size) (hr : Rep W v s' S' D') (hd : DvF W s' b wt rd rg S') (hc : Chg S w W) (hk : Kept w W) (g1 : Grow W0 S S') (g2 : Grow W0 D D') (hb : Blk W (w.heap.size + 2) zeroV 32) (ob : Off (fun k => k = w.heap.size + 2) b) (ow : Off (fun k => k = w.heap.size + 2) wt) (or_ : Off (fun k => k = w.heap.size + 2) rd) (og : Off (fun k => k = w.heap.size + 2) rg) (n1 : wt = wt0 ∨ NewA w wt) (n2 : rd = rd0 ∨ NewA w rd) (n3 : rg = rg0 ∨ NewA w rg) :
    DoR Rep v s' b wt0 rd0 rg0 S D w (.returned (.tuple #[.bool true, .agg #[.slice b.a b.n b.c, .slice wt.a wt.n wt.c, .slice rd.a rd.n rd.c, .slice rg.a rg.n rg.c]])) ((((W.setCell ⟨w.heap.size + 2, 0, none⟩ (.slice b.a b.n b.c)).setCell ⟨w.heap.size + 2, 1, none⟩ (.slice wt.a wt.n wt.c)).setCell ⟨w.heap.size + 2, 2, none⟩ (.slice rd.a rd.n rd.c)).setCell ⟨w.heap.size + 2, 3, none⟩ (.slice rg.a rg.n rg.c)).drew := by
  obtain ⟨p1, p2, _⟩ := put4 hb (by decide) (.slice b.a b.n b.c) (.slice wt.a wt.n wt.c) (.slice rd.a rd.n rd.c) (.slice rg.a rg.n rg.c)
  refine ⟨wt, rd, rg, S', D', rfl, hS.stay hr p1 (fun q hq => by subst hq; exact not_in g2 hlt hz 2 (by omega)) p2, ⟨⟨ss_chg hd.dv.base p1 ob, ss_chg hd.dv.wr p1 ow, ss_chg hd.dv.rd p1 or_, ss_chg hd.dv.rg p1 og⟩, hd.fb, hd.fw, hd.fr, hd.fg⟩, ⟨hc.then_ p1 (fun i hi hq => by omega), Kept.trans hk p2, grow_mono g1 hA.size, grow_mono g2 hA.size⟩, n1, n2, n3⟩
/-- Behind the last store. -/
theorem finn (hS : Stays Rep) {w W0 W : World} {v : Value} {s' : Vs} {b wt rd rg wt0 rd0 rg0 : Sh} {S D S' D' : Nat → Prop} (hA : Below w.heap.size w W0) (hz : W0.heap.size = w.heap.size + 3) (hlt : ∀ b, D b → b < w.heap.size) (hr : Rep W v s' S' D') (hd : DvF W s' b wt rd rg S') (hc : Chg S w W) (hk : Kept w W) (g1 : Grow W0 S S') (g2 : Grow W0 D D') (hb : Blk W (w.heap.size + 2) zeroV 32) (ob : Off (fun k => k = w.heap.size + 2) b) (ow : Off (fun k => k = w.heap.size + 2) wt) (or_ : Off (fun k => k = w.heap.size + 2) rd) (og : Off (fun k => k = w.heap.size + 2) rg) (n1 : wt = wt0 ∨ NewA w wt) (n2 : rd = rd0 ∨ NewA w rd) (n3 : rg = rg0 ∨ NewA w rg) :
    DoR Rep v s' b wt0 rd0 rg0 S D w (.returned (.tuple #[.bool true, .agg #[.slice b.a b.n b.c, .slice wt.a wt.n wt.c, .slice rd.a rd.n rd.c, .slice rg.a rg.n rg.c]])) ((((W.setCell ⟨w.heap.size + 2, 0, none⟩ (.slice b.a b.n b.c)).setCell ⟨w.heap.size + 2, 1, none⟩ (.slice wt.a wt.n wt.c)).setCell ⟨w.heap.size + 2, 2, none⟩ (.slice rd.a rd.n rd.c)).setCell ⟨w.heap.size + 2, 3, none⟩ (.slice rg.a rg.n rg.c)) := by
  obtain ⟨p1, p2, _⟩ := put4n hb (by decide) (.slice b.a b.n b.c) (.slice wt.a wt.n wt.c) (.slice rd.a rd.n rd.c) (.slice rg.a rg.n rg.c)
  refine ⟨wt, rd, rg, S', D', rfl, hS.stay hr p1 (fun q hq => by subst hq; exact not_in g2 hlt hz 2 (by omega)) p2, ⟨⟨ss_chg hd.dv.base p1 ob, ss_chg hd.dv.wr p1 ow, ss_chg hd.dv.rd p1 or_, ss_chg hd.dv.rg p1 og⟩, hd.fb, hd.fw, hd.fr, hd.fg⟩, ⟨hc.then_ p1 (fun i hi hq => by omega), Kept.trans hk p2, grow_mono g1 hA.size, grow_mono g2 hA.size⟩, n1, n2, n3⟩
theorem refwrite_is {s : Vs} {b wt rd rg : Sh} {k x : ByteArray} {gn ok : Bool} {w : World} (hw : (!fullW s.wr ⟨k, x, gn⟩) = ok) (hd : Dv w s b wt rd rg) (hb : s.base.length ≤ 1000) (hok : s.Ok) :
    Calls Try.prog 31 #[.agg #[.slice b.a b.n b.c, .slice wt.a wt.n wt.c, .slice rd.a rd.n rd.c, .slice rg.a rg.n rg.c], .agg #[.string k, .string x, .bool gn]] w fun e w' => ∃ wt' : Sh, e = .returned (.tuple #[.bool ok, .agg #[.slice b.a b.n b.c, .slice wt'.a wt'.n wt'.c, .slice rd.a rd.n rd.c, .slice rg.a rg.n rg.c]]) ∧ Dv w' (s.write ⟨k, x, gn⟩) b wt' rd rg ∧ Below w.heap.size w w' ∧ (wt' = wt ∨ NewA w wt') := by
  subst hw
  exact refwrite_view s b wt rd rg ⟨k, x, gn⟩ w hd hb hok
theorem set_is {s : Vs} {v : Value} {S D : Nat → Prop} {k x : ByteArray} {ok : Bool} {w : World} (hX : SetOk Rep) (hw : (!fullW s.wr ⟨k, x, false⟩) = ok) (hr : Rep w v s S D) (hl : Lim s) (h1 : k.size ≤ 200000000000000) (h2 : x.size ≤ 200000000000000) :
    Calls Try.prog 16 #[v, .string k, .string x] w fun e w' => ∃ S' D', e = .returned (.bool ok) ∧ Rep w' v (s.write ⟨k, x, false⟩) S' D' ∧ Stp S D S' D' w w' := by
  subst hw
  exact hX k x hr hl h1 h2
theorem cut_is {s : Vs} {v : Value} {S D : Nat → Prop} {k : ByteArray} {ok : Bool} {w : World} (hX : CutOk Rep) (hw : (!fullW s.wr ⟨k, ⟨#[]⟩, true⟩) = ok) (hr : Rep w v s S D) (hl : Lim s) (h1 : k.size ≤ 200000000000000) :
    Calls Try.prog 19 #[v, .string k] w fun e w' => ∃ S' D', e = .returned (.bool ok) ∧ Rep w' v (s.write ⟨k, ⟨#[]⟩, true⟩) S' D' ∧ Stp S D S' D' w w' := by
  subst hw
  exact hX k hr hl h1
set_option maxRecDepth 100000 in
set_option maxHeartbeats 8000000 in
theorem do_get (hS : Stays Rep) (hX : GetOk Rep) (v : Value) (s : Vs) (S D : Nat → Prop) (b wt rd rg : Sh) (key value : ByteArray) (w : World) (hr : Rep w v s S D) (hd : DvF w s b wt rd rg S) (hlim : Lim s) (hk1 : key.size ≤ 100) (hk2 : value.size ≤ 100) :
    Calls Try.prog 11 #[v, .agg #[.slice b.a b.n b.c, .slice wt.a wt.n wt.c, .slice rd.a rd.n rd.c, .slice rg.a rg.n rg.c], .agg #[.int .i64 0, .string key, .string value]] w (DoR Rep v (s.read key) b wt rd rg S D w) := by
  have hok := hS.ok hr
  have hlt := hS.lt hr
  have hsub := hS.sub hr
  have hW0 : ∃ W0, ((w.alloc (.cells #[.slice b.a b.n b.c, .slice wt.a wt.n wt.c, .slice rd.a rd.n rd.c, .slice rg.a rg.n rg.c] 32)).alloc (.cells #[.int .i64 0, .string key, .string value] 35)).alloc (.cells zeroV 32) = W0 ∧ Blk W0 w.heap.size #[.slice b.a b.n b.c, .slice wt.a wt.n wt.c, .slice rd.a rd.n rd.c, .slice rg.a rg.n rg.c] 32 ∧ Blk W0 (w.heap.size + 1) #[.int .i64 0, .string key, .string value] 35 ∧ Blk W0 (w.heap.size + 2) zeroV 32 ∧ Below w.heap.size w W0 ∧ W0.heap.size = w.heap.size + 3 :=
    ⟨_, rfl, ((Blk.new_ _ _ _).alloc _).alloc _, by have h := (Blk.new_ (w.alloc (.cells #[.slice b.a b.n b.c, .slice wt.a wt.n wt.c, .slice rd.a rd.n rd.c, .slice rg.a rg.n rg.c] 32)) #[.int .i64 0, .string key, .string value] 35).alloc (.cells zeroV 32); simpa using h, by have h := Blk.new_ ((w.alloc (.cells #[.slice b.a b.n b.c, .slice wt.a wt.n wt.c, .slice rd.a rd.n rd.c, .slice rg.a rg.n rg.c] 32)).alloc (.cells #[.int .i64 0, .string key, .string value] 35)) zeroV 32; simpa using h, (((Below.refl _ _).alloc (Nat.le_refl _) _).alloc (by simp <;> omega) _).alloc (by simp <;> omega) _, by simp⟩
  obtain ⟨W0, e0, q1, q2, q3, q4, q5⟩ := hW0
  have HRP := Lib.hid (hS.below hr q4)
  have HDV := Lib.hid (hd.below q4)
  have HD0 := Lib.hid hd
  have HS := Lib.hid hS
  have HX := Lib.hid hX
  have HLM := Lib.hid hlim
  have HOK := Lib.hid hok
  have HLT := Lib.hid hlt
  have HSB := Lib.hid hsub
  have E0 := Lib.hid e0
  have Q1 := Lib.hid q1
  have Q2 := Lib.hid q2
  have Q3 := Lib.hid q3
  have Q4 := Lib.hid q4
  have Q5 := Lib.hid q5
  have HK1 := Lib.hid hk1
  have HK2 := Lib.hid hk2
  have hn0 : ¬ S w.heap.size := fun h => by have := hlt _ (hsub _ h); omega
  have hn1 : ¬ S (w.heap.size + 1) := fun h => by have := hlt _ (hsub _ h); omega
  have hn2 : ¬ S (w.heap.size + 2) := fun h => by have := hlt _ (hsub _ h); omega
  have HN0 := Lib.hid hn0
  have HN1 := Lib.hid hn1
  have HN2 := Lib.hid hn2
  clear hd hr hok hlim hlt hsub hX hS e0 q1 q2 q3 q4 q5 hk1 hk2 hn0 hn1 hn2
  go_enter Try.func11, Try.ntmps11
  go_upto_region 1 with (fail)
  change Code.wp _ _ _ _ (((w.alloc (.cells #[.slice b.a b.n b.c, .slice wt.a wt.n wt.c, .slice rd.a rd.n rd.c, .slice rg.a rg.n rg.c] 32)).alloc (.cells #[.int .i64 0, .string key, .string value] 35)).alloc (.cells zeroV 32))
  rw [E0.out]
  have a0 : W0.cell? ⟨w.heap.size + 1, 0, none⟩ = some (.int .i64 0) := Q2.out.cell 0
  have a1 : W0.cell? ⟨w.heap.size + 1, 1, none⟩ = some (.string key) := Q2.out.cell 1
  have a2 : W0.cell? ⟨w.heap.size + 1, 2, none⟩ = some (.string value) := Q2.out.cell 2
  obtain ⟨x, y, hxy⟩ := got_form (getL key s.shown)
  have HXY := Lib.hid hxy
  have hlt := HLT.out
  clear hxy hlt
  go_upto_region 5 with (first
    | (go_at_call 20; refine (HX.out key HRP.out HLM.out (by have := HK1.out; omega)).mono ?_; rintro e w1 ⟨S1, D1, rfl, hr1, hst1⟩; have HR1 := Lib.hid hr1; have HST := Lib.hid hst1; have HDV1 := Lib.hid (HDV.out.next hst1.chg hst1.own); have Q1b := Lib.hid (blk_chg Q1.out hst1.chg HN0.out); have Q2b := Lib.hid (blk_chg Q2.out hst1.chg HN1.out); have Q3b := Lib.hid (blk_chg Q3.out hst1.chg HN2.out); have b1 : w1.cell? ⟨w.heap.size + 1, 1, none⟩ = some (.string key) := Q2b.out.cell 1; rw [HXY.out]; clear hr1 hst1)
    | ((with_reducible refine pick (some 36) ?_); refine load_blk rfl 32 _ rfl w.heap.size rfl 32 #[.slice b.a b.n b.c, .slice wt.a wt.n wt.c, .slice rd.a rd.n rd.c, .slice rg.a rg.n rg.c] _ Q1b.out Try.underlying32 rfl info_view ?_)
    | (go_at_call 29; refine (refget_view s b wt rd rg key _ HDV1.out.dv (by have := HLM.out.base; omega) HLM.out.rd HOK.out).mono ?_; rintro e w2 ⟨x', y', rd', rfl, hxy', hd2, hb2, hn2⟩; obtain ⟨rfl, rfl⟩ := got_inj HXY.out hxy'; have HD2 := Lib.hid hd2; have HB2 := Lib.hid hb2; have HNW := Lib.hid hn2; have HR2 := Lib.hid (HS.out.below HR1.out hb2); have Q1c := Lib.hid (Q1b.out.below hb2); have Q2c := Lib.hid (Q2b.out.below hb2); have Q3c := Lib.hid (Q3b.out.below hb2); have HDV2 := Lib.hid (HDV1.out.below hb2); clear hd2 hb2 hn2 hxy'))
  obtain ⟨W3, hW3⟩ : ∃ W3, w2.alloc (.cells #[.slice b.a b.n b.c, .slice wt.a wt.n wt.c, .slice rd'.a rd'.n rd'.c, .slice rg.a rg.n rg.c] 32) = W3 := ⟨_, rfl⟩
  have hb3 : Below w2.heap.size w2 W3 := by rw [← hW3]; exact (Below.refl _ _).alloc (Nat.le_refl _) _
  have hk3 : Blk W3 w2.heap.size #[.slice b.a b.n b.c, .slice wt.a wt.n wt.c, .slice rd'.a rd'.n rd'.c, .slice rg.a rg.n rg.c] 32 := by rw [← hW3]; exact Blk.new_ _ _ _
  change Code.wp _ _ _ _ (w2.alloc (.cells #[.slice b.a b.n b.c, .slice wt.a wt.n wt.c, .slice rd'.a rd'.n rd'.c, .slice rg.a rg.n rg.c] 32))
  rw [hW3]
  have HB3 := Lib.hid hb3
  have HK3 := Lib.hid hk3
  have HR3 := Lib.hid (HS.out.below HR2.out hb3)
  have Q1d := Lib.hid (Q1c.out.below hb3)
  have Q3d := Lib.hid (Q3c.out.below hb3)
  clear hW3 hb3 hk3
  have z1 : (x.toList == x.toList) = true := neq_true rfl
  have z2 : (y == y) = true := by simp
  obtain ⟨d0, d1, d2, d3⟩ : W3.cell? ⟨w2.heap.size, 0, none⟩ = some (.slice b.a b.n b.c) ∧ W3.cell? ⟨w2.heap.size, 1, none⟩ = some (.slice wt.a wt.n wt.c) ∧ W3.cell? ⟨w2.heap.size, 2, none⟩ = some (.slice rd'.a rd'.n rd'.c) ∧ W3.cell? ⟨w2.heap.size, 3, none⟩ = some (.slice rg.a rg.n rg.c) := ⟨HK3.out.cell 0, HK3.out.cell 1, HK3.out.cell 2, HK3.out.cell 3⟩
  obtain ⟨r0, r1, r2, r3⟩ : W3.cell? ⟨w.heap.size + 2, 0, none⟩ = some (.slice none 0 0) ∧ W3.cell? ⟨w.heap.size + 2, 1, none⟩ = some (.slice none 0 0) ∧ W3.cell? ⟨w.heap.size + 2, 2, none⟩ = some (.slice none 0 0) ∧ W3.cell? ⟨w.heap.size + 2, 3, none⟩ = some (.slice none 0 0) := ⟨Q3d.out.cell 0, Q3d.out.cell 1, Q3d.out.cell 2, Q3d.out.cell 3⟩
  obtain ⟨f0, f1, f2, f3⟩ : W3.frozen? ⟨w.heap.size + 2, 0, none⟩ = false ∧ W3.frozen? ⟨w.heap.size + 2, 1, none⟩ = false ∧ W3.frozen? ⟨w.heap.size + 2, 2, none⟩ = false ∧ W3.frozen? ⟨w.heap.size + 2, 3, none⟩ = false := ⟨Q3d.out.frozen 0, Q3d.out.frozen 1, Q3d.out.frozen 2, Q3d.out.frozen 3⟩
  go_region_law (fail)
  all_goals go_wp2_with fail
  have hz : Blk ((((W3.setCell ⟨w.heap.size + 2, 0, none⟩ (.slice b.a b.n b.c)).setCell ⟨w.heap.size + 2, 1, none⟩ (.slice wt.a wt.n wt.c)).setCell ⟨w.heap.size + 2, 2, none⟩ (.slice rd'.a rd'.n rd'.c)).setCell ⟨w.heap.size + 2, 3, none⟩ (.slice rg.a rg.n rg.c)).drew (w.heap.size + 2) #[.slice b.a b.n b.c, .slice wt.a wt.n wt.c, .slice rd'.a rd'.n rd'.c, .slice rg.a rg.n rg.c] 32 := (put4 Q3d.out (by decide) _ _ _ _).2.2
  refine bodyPost_ret (v := .tuple #[.bool true, .agg #[.slice b.a b.n b.c, .slice wt.a wt.n wt.c, .slice rd'.a rd'.n rd'.c, .slice rg.a rg.n rg.c]]) (results_tmp1_row rfl _ _ (w.heap.size + 2) 32 _ (0, 0) _ rfl (.bool true) rfl hz Try.underlying32 rfl info_view) rfl ?_
  exact fin HS.out Q4.out Q5.out HLT.out HR3.out ((⟨HD2.out, HDV2.out.fb, HDV2.out.fw, Off.new (fun q hq => HS.out.lt HR1.out q (HS.out.sub HR1.out q hq)) HNW.out, HDV2.out.fg⟩ : DvF _ _ _ _ _ _ _).below HB3.out) (((Chg.of_below Q4.out).trans HST.out.chg).trans ((Chg.of_below HB2.out).trans (Chg.of_below HB3.out))) (Kept.trans (Kept.of_below Q4.out) (Kept.trans HST.out.kept (Kept.trans (Kept.of_below HB2.out) (Kept.of_below HB3.out)))) HST.out.own HST.out.dep Q3d.out (off_old HD0.out.dv.base (Nat.le_add_right _ _)) (off_old HD0.out.dv.wr (Nat.le_add_right _ _)) (off_new HNW.out (by have h1 := HST.out.chg.size; have h2 := Q5.out; omega)) (off_old HD0.out.dv.rg (Nat.le_add_right _ _)) (.inl rfl) (.inr fun bb oo hh => Nat.le_trans (Nat.le_trans Q4.out.size HST.out.chg.size) (HNW.out bb oo hh)) (.inl rfl)

set_option maxRecDepth 100000 in
set_option maxHeartbeats 8000000 in
theorem do_look (hS : Stays Rep) (hX : LookOk Rep) (v : Value) (s : Vs) (S D : Nat → Prop) (b wt rd rg : Sh) (key value : ByteArray) (w : World) (hr : Rep w v s S D) (hd : DvF w s b wt rd rg S) (hlim : Lim s) (hk1 : key.size ≤ 100) (hk2 : value.size ≤ 100) :
    Calls Try.prog 11 #[v, .agg #[.slice b.a b.n b.c, .slice wt.a wt.n wt.c, .slice rd.a rd.n rd.c, .slice rg.a rg.n rg.c], .agg #[.int .i64 1, .string key, .string value]] w (DoR Rep v (s) b wt rd rg S D w) := by
  have hok := hS.ok hr
  have hlt := hS.lt hr
  have hsub := hS.sub hr
  have hW0 : ∃ W0, ((w.alloc (.cells #[.slice b.a b.n b.c, .slice wt.a wt.n wt.c, .slice rd.a rd.n rd.c, .slice rg.a rg.n rg.c] 32)).alloc (.cells #[.int .i64 1, .string key, .string value] 35)).alloc (.cells zeroV 32) = W0 ∧ Blk W0 w.heap.size #[.slice b.a b.n b.c, .slice wt.a wt.n wt.c, .slice rd.a rd.n rd.c, .slice rg.a rg.n rg.c] 32 ∧ Blk W0 (w.heap.size + 1) #[.int .i64 1, .string key, .string value] 35 ∧ Blk W0 (w.heap.size + 2) zeroV 32 ∧ Below w.heap.size w W0 ∧ W0.heap.size = w.heap.size + 3 :=
    ⟨_, rfl, ((Blk.new_ _ _ _).alloc _).alloc _, by have h := (Blk.new_ (w.alloc (.cells #[.slice b.a b.n b.c, .slice wt.a wt.n wt.c, .slice rd.a rd.n rd.c, .slice rg.a rg.n rg.c] 32)) #[.int .i64 1, .string key, .string value] 35).alloc (.cells zeroV 32); simpa using h, by have h := Blk.new_ ((w.alloc (.cells #[.slice b.a b.n b.c, .slice wt.a wt.n wt.c, .slice rd.a rd.n rd.c, .slice rg.a rg.n rg.c] 32)).alloc (.cells #[.int .i64 1, .string key, .string value] 35)) zeroV 32; simpa using h, (((Below.refl _ _).alloc (Nat.le_refl _) _).alloc (by simp <;> omega) _).alloc (by simp <;> omega) _, by simp⟩
  obtain ⟨W0, e0, q1, q2, q3, q4, q5⟩ := hW0
  have HRP := Lib.hid (hS.below hr q4)
  have HDV := Lib.hid (hd.below q4)
  have HD0 := Lib.hid hd
  have HS := Lib.hid hS
  have HX := Lib.hid hX
  have HLM := Lib.hid hlim
  have HOK := Lib.hid hok
  have HLT := Lib.hid hlt
  have HSB := Lib.hid hsub
  have E0 := Lib.hid e0
  have Q1 := Lib.hid q1
  have Q2 := Lib.hid q2
  have Q3 := Lib.hid q3
  have Q4 := Lib.hid q4
  have Q5 := Lib.hid q5
  have HK1 := Lib.hid hk1
  have HK2 := Lib.hid hk2
  have hn0 : ¬ S w.heap.size := fun h => by have := hlt _ (hsub _ h); omega
  have hn1 : ¬ S (w.heap.size + 1) := fun h => by have := hlt _ (hsub _ h); omega
  have hn2 : ¬ S (w.heap.size + 2) := fun h => by have := hlt _ (hsub _ h); omega
  have HN0 := Lib.hid hn0
  have HN1 := Lib.hid hn1
  have HN2 := Lib.hid hn2
  clear hd hr hok hlim hlt hsub hX hS e0 q1 q2 q3 q4 q5 hk1 hk2 hn0 hn1 hn2
  go_enter Try.func11, Try.ntmps11
  go_upto_region 1 with (fail)
  change Code.wp _ _ _ _ (((w.alloc (.cells #[.slice b.a b.n b.c, .slice wt.a wt.n wt.c, .slice rd.a rd.n rd.c, .slice rg.a rg.n rg.c] 32)).alloc (.cells #[.int .i64 1, .string key, .string value] 35)).alloc (.cells zeroV 32))
  rw [E0.out]
  have a0 : W0.cell? ⟨w.heap.size + 1, 0, none⟩ = some (.int .i64 1) := Q2.out.cell 0
  have a1 : W0.cell? ⟨w.heap.size + 1, 1, none⟩ = some (.string key) := Q2.out.cell 1
  have a2 : W0.cell? ⟨w.heap.size + 1, 2, none⟩ = some (.string value) := Q2.out.cell 2
  obtain ⟨x, y, hxy⟩ := got_form (getL key s.shown)
  have HXY := Lib.hid hxy
  have hlt := HLT.out
  clear hxy hlt
  go_upto_region 9 with (first
    | (go_at_call 21; refine (HX.out key HRP.out HLM.out (by have := HK1.out; omega)).mono ?_; rintro e w1 ⟨S1, D1, rfl, hr1, hst1⟩; have HR1 := Lib.hid hr1; have HST := Lib.hid hst1; have HDV1 := Lib.hid (HDV.out.next hst1.chg hst1.own); have Q1b := Lib.hid (blk_chg Q1.out hst1.chg HN0.out); have Q2b := Lib.hid (blk_chg Q2.out hst1.chg HN1.out); have Q3b := Lib.hid (blk_chg Q3.out hst1.chg HN2.out); have b1 : w1.cell? ⟨w.heap.size + 1, 1, none⟩ = some (.string key) := Q2b.out.cell 1; rw [HXY.out]; clear hr1 hst1)
    | ((with_reducible refine pick (some 62) ?_); refine load_blk rfl 32 _ rfl w.heap.size rfl 32 #[.slice b.a b.n b.c, .slice wt.a wt.n wt.c, .slice rd.a rd.n rd.c, .slice rg.a rg.n rg.c] _ Q1b.out Try.underlying32 rfl info_view ?_)
    | (go_at_call 29; refine (refget_view s b wt rd rg key _ HDV1.out.dv (by have := HLM.out.base; omega) HLM.out.rd HOK.out).mono ?_; rintro e w2 ⟨x', y', rd', rfl, hxy', hd2, hb2, hn2⟩; obtain ⟨rfl, rfl⟩ := got_inj HXY.out hxy'; have HD2 := Lib.hid hd2; have HB2 := Lib.hid hb2; have HNW := Lib.hid hn2; have HR2 := Lib.hid (HS.out.below HR1.out hb2); have Q1c := Lib.hid (Q1b.out.below hb2); have Q2c := Lib.hid (Q2b.out.below hb2); have Q3c := Lib.hid (Q3b.out.below hb2); have HDV2 := Lib.hid (HDV1.out.below hb2); clear hd2 hb2 hn2 hxy'))
  obtain ⟨W3, hW3⟩ : ∃ W3, w2.alloc (.cells #[.slice b.a b.n b.c, .slice wt.a wt.n wt.c, .slice rd'.a rd'.n rd'.c, .slice rg.a rg.n rg.c] 32) = W3 := ⟨_, rfl⟩
  have hb3 : Below w2.heap.size w2 W3 := by rw [← hW3]; exact (Below.refl _ _).alloc (Nat.le_refl _) _
  have hk3 : Blk W3 w2.heap.size #[.slice b.a b.n b.c, .slice wt.a wt.n wt.c, .slice rd'.a rd'.n rd'.c, .slice rg.a rg.n rg.c] 32 := by rw [← hW3]; exact Blk.new_ _ _ _
  change Code.wp _ _ _ _ (w2.alloc (.cells #[.slice b.a b.n b.c, .slice wt.a wt.n wt.c, .slice rd'.a rd'.n rd'.c, .slice rg.a rg.n rg.c] 32))
  rw [hW3]
  have HB3 := Lib.hid hb3
  have HK3 := Lib.hid hk3
  have HR3 := Lib.hid (HS.out.below HR2.out hb3)
  have Q1d := Lib.hid (Q1c.out.below hb3)
  have Q3d := Lib.hid (Q3c.out.below hb3)
  clear hW3 hb3 hk3
  have z1 : (x.toList == x.toList) = true := neq_true rfl
  have z2 : (y == y) = true := by simp
  obtain ⟨d0, d1, d2, d3⟩ : W3.cell? ⟨w.heap.size, 0, none⟩ = some (.slice b.a b.n b.c) ∧ W3.cell? ⟨w.heap.size, 1, none⟩ = some (.slice wt.a wt.n wt.c) ∧ W3.cell? ⟨w.heap.size, 2, none⟩ = some (.slice rd.a rd.n rd.c) ∧ W3.cell? ⟨w.heap.size, 3, none⟩ = some (.slice rg.a rg.n rg.c) := ⟨Q1d.out.cell 0, Q1d.out.cell 1, Q1d.out.cell 2, Q1d.out.cell 3⟩
  obtain ⟨r0, r1, r2, r3⟩ : W3.cell? ⟨w.heap.size + 2, 0, none⟩ = some (.slice none 0 0) ∧ W3.cell? ⟨w.heap.size + 2, 1, none⟩ = some (.slice none 0 0) ∧ W3.cell? ⟨w.heap.size + 2, 2, none⟩ = some (.slice none 0 0) ∧ W3.cell? ⟨w.heap.size + 2, 3, none⟩ = some (.slice none 0 0) := ⟨Q3d.out.cell 0, Q3d.out.cell 1, Q3d.out.cell 2, Q3d.out.cell 3⟩
  obtain ⟨f0, f1, f2, f3⟩ : W3.frozen? ⟨w.heap.size + 2, 0, none⟩ = false ∧ W3.frozen? ⟨w.heap.size + 2, 1, none⟩ = false ∧ W3.frozen? ⟨w.heap.size + 2, 2, none⟩ = false ∧ W3.frozen? ⟨w.heap.size + 2, 3, none⟩ = false := ⟨Q3d.out.frozen 0, Q3d.out.frozen 1, Q3d.out.frozen 2, Q3d.out.frozen 3⟩
  go_region_law (fail)
  all_goals go_wp2_with fail
  have hz : Blk ((((W3.setCell ⟨w.heap.size + 2, 0, none⟩ (.slice b.a b.n b.c)).setCell ⟨w.heap.size + 2, 1, none⟩ (.slice wt.a wt.n wt.c)).setCell ⟨w.heap.size + 2, 2, none⟩ (.slice rd.a rd.n rd.c)).setCell ⟨w.heap.size + 2, 3, none⟩ (.slice rg.a rg.n rg.c)).drew (w.heap.size + 2) #[.slice b.a b.n b.c, .slice wt.a wt.n wt.c, .slice rd.a rd.n rd.c, .slice rg.a rg.n rg.c] 32 := (put4 Q3d.out (by decide) _ _ _ _).2.2
  refine bodyPost_ret (v := .tuple #[.bool true, .agg #[.slice b.a b.n b.c, .slice wt.a wt.n wt.c, .slice rd.a rd.n rd.c, .slice rg.a rg.n rg.c]]) (results_tmp1_row rfl _ _ (w.heap.size + 2) 32 _ (0, 0) _ rfl (.bool true) rfl hz Try.underlying32 rfl info_view) rfl ?_
  exact fin HS.out Q4.out Q5.out HLT.out HR3.out (HDV2.out.below HB3.out) (((Chg.of_below Q4.out).trans HST.out.chg).trans ((Chg.of_below HB2.out).trans (Chg.of_below HB3.out))) (Kept.trans (Kept.of_below Q4.out) (Kept.trans HST.out.kept (Kept.trans (Kept.of_below HB2.out) (Kept.of_below HB3.out)))) HST.out.own HST.out.dep Q3d.out (off_old HD0.out.dv.base (Nat.le_add_right _ _)) (off_old HD0.out.dv.wr (Nat.le_add_right _ _)) (off_old HD0.out.dv.rd (Nat.le_add_right _ _)) (off_old HD0.out.dv.rg (Nat.le_add_right _ _)) (.inl rfl) (.inl rfl) (.inl rfl)

end Go.Proofs.Ytdnenikplajmaaa.ViewD
