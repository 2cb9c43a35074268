/- The contract of the document's New. -/
import Derived.Test.YtdcmpkohengnaaaNorZ
import Derived.Deep.AppendLies
namespace Go.Proofs.Ytdcmpkohengnaaa.NorI
set_option linter.unusedVariables false
set_option linter.unusedSimpArgs false
open Go.RowKit
open Go.Proofs.Ytdcmpkohengnaaa.Byte Go.Proofs.Ytdcmpkohengnaaa.NorD Go.Proofs.Ytdcmpkohengnaaa.NorM Go.Proofs.Ytdcmpkohengnaaa.NorS Go.Proofs.Ytdcmpkohengnaaa.NorB Go.Proofs.Ytdcmpkohengnaaa.NorP Go.Proofs.Ytdcmpkohengnaaa.NorR Go.Proofs.Ytdcmpkohengnaaa.NorU Go.Proofs.Ytdcmpkohengnaaa.NorV Go.Proofs.Ytdcmpkohengnaaa.NorX Go.Proofs.Ytdcmpkohengnaaa.NorY Go.Proofs.Ytdcmpkohengnaaa.NorZ Go.Proofs.Ytdcmpkohengnaaa.PlaceM Go.Proofs.Ytdcmpkohengnaaa.PlaceV

section
variable {w w' : World} {base g k : Nat} {e : TypeId} {v : Value} {xs : List Value}
theorem own_blk (h : w.ownsRow base e 1 v k xs) {q : Nat} (hq : v.ownBlock = some q) : ∃ cs, Blk w q e cs := by
  rcases h.2 with ⟨rfl, _⟩ | ⟨g', cap', cur, rfl, _, h3, _⟩
  · cases hq
  · injection hq with hq
    have hq : g' = q := hq
    subst hq
    exact ⟨cur, h3⟩
theorem own_chg {S : Nat → Prop} (h : w.ownsRow base e 1 v k xs) (hc : Chg S w w') (hS : ∀ q, v.ownBlock = some q → ¬ S q) : w'.ownsRow base e 1 v k xs := by
  have hl := h.lt
  rcases h with ⟨h1, ⟨rfl, h2⟩ | ⟨g', cap', cur, rfl, hb, h3, h4⟩⟩
  · exact ⟨h1, .inl ⟨rfl, h2⟩⟩
  · exact ⟨h1, .inr ⟨g', cap', cur, rfl, hb, (hc.block g' (hl g' rfl).2 (hS g' rfl)).trans h3, h4⟩⟩
theorem own_off {t : TypeId} {cs : Array Value} (h : w.ownsRow base e 1 v k xs) (hb : Blk w g t cs) (ht : t ≠ e) : v.ownBlock ≠ some g := by
  intro hq
  obtain ⟨cs', hb'⟩ := own_blk h hq
  exact Blk.ne_ hb hb' ht rfl
theorem own_two {e' : TypeId} {v' : Value} {k' base' : Nat} {xs' : List Value} (h : w.ownsRow base e 1 v k xs) (h' : w.ownsRow base' e' 1 v' k' xs') (ht : e ≠ e') {q : Nat} (hq : v.ownBlock = some q) : v'.ownBlock ≠ some q := by
  obtain ⟨cs, hb⟩ := own_blk h hq
  exact own_off h' hb ht
end

/-- The device while it is being made. -/
def nc (n z : Nat) (dv wv bv : Value) : Array Value := #[.int .i64 n, .int .i64 z, dv, wv, bv, .bool false, .int .i64 0, .int .i64 0, .bool false, .int .i64 0, .int .i64 0, .int .u8 0]
def slc (z : Nat) (p : Nat × Nat) : Value := .slice (some ⟨p.1, 0, none⟩) z p.2
structure NR (w wr : World) (n z ka kb kc : Nat) (gs : List (Nat × Nat)) (dv wv bv : Value) : Prop where
  geo : Blk wr w.heap.size 23 #[.int .i64 n, .int .i64 z]
  res : Blk wr (w.heap.size + 1) 35 zeroRef
  dev : Blk wr (w.heap.size + 1 + 1) 35 (nc n z dv wv bv)
  od : wr.ownsRow w.heap.size 38 1 dv ka (gs.map (slc z))
  ow : wr.ownsRow w.heap.size 3 1 wv kb (List.replicate kb (.int .i64 0))
  ob : wr.ownsRow w.heap.size 4 1 bv kc (List.replicate kc (.bool false))
  rows : ∀ p ∈ gs, Ob wr w.heap.size 5 p.1 z p.2 (List.replicate z 255)
  len : gs.length = ka
  bel : Below w.heap.size w wr
section
variable {w wr W : World} {n z ka kb kc : Nat} {gs : List (Nat × Nat)} {dv wv bv : Value}
theorem rows_chg {S : Nat → Prop} (h : ∀ p ∈ gs, Ob wr w.heap.size 5 p.1 z p.2 (List.replicate z 255)) (hc : Chg S wr W) (hS : ∀ q cs, Blk wr q 5 cs → ¬ S q) : ∀ p ∈ gs, Ob W w.heap.size 5 p.1 z p.2 (List.replicate z 255) := fun p hp => by
  have h' := h p hp
  obtain ⟨cur, hh, _⟩ := h'.row
  exact h'.chg hc (hS _ _ hh)
theorem NR.below (h : NR w wr n z ka kb kc gs dv wv bv) (hb : Below wr.heap.size wr W) : NR w W n z ka kb kc gs dv wv bv := by
  have hc : Chg (fun _ => False) wr W := Chg.of_below hb
  exact ⟨h.geo.chg hc (fun h => h), h.res.chg hc (fun h => h), h.dev.chg hc (fun h => h), own_chg h.od hc (fun _ _ h => h), own_chg h.ow hc (fun _ _ h => h), own_chg h.ob hc (fun _ _ h => h), rows_chg h.rows hc (fun _ _ _ h => h), h.len, h.bel.trans (hb.mono h.bel.size)⟩
/-- A row of the device grows. -/
theorem grow_chg {v u : Value} {o : Obj} {w4 : World} {d i : Nat} (hg : (wr.alloc o).grownBy w4 v.ownBlock) : Chg (fun q => v.ownBlock = some q ∨ q = d) wr (w4.setCell ⟨d, i, none⟩ u) := by
  have hc4 : Chg (fun q => v.ownBlock = some q) wr w4 := ((Chg.refl _ wr).alloc o).then_ (Chg.of_grown hg (fun q e => .inl e)) (fun _ _ h => h)
  exact (hc4.mono (fun _ _ h => .inl h)).setCell (.inl (.inr rfl)) _
theorem grow_dev {v u : Value} {o : Obj} {w4 : World} {d i base k : Nat} {e t : TypeId} {cs : Array Value} {xs : List Value} (hg : (wr.alloc o).grownBy w4 v.ownBlock) (ho : wr.ownsRow base e 1 v k xs) (hd : Blk wr d t cs) (ht : t ≠ e) : Blk (w4.setCell ⟨d, i, none⟩ u) d t (cs.setIfInBounds i u) := by
  have hc4 : Chg (fun q => v.ownBlock = some q) wr w4 := ((Chg.refl _ wr).alloc o).then_ (Chg.of_grown hg (fun q e => .inl e)) (fun _ _ h => h)
  exact (hd.chg hc4 (own_off ho hd ht)).set_ i u
theorem grow_blk {v : Value} {o : Obj} {w4 : World} {d base k : Nat} {e t : TypeId} {cs : Array Value} {xs : List Value} (hg : (wr.alloc o).grownBy w4 v.ownBlock) (ho : wr.ownsRow base e 1 v k xs) (hd : Blk wr d t cs) (ht : t ≠ e) : Blk w4 d t cs := by
  have hc4 : Chg (fun q => v.ownBlock = some q) wr w4 := ((Chg.refl _ wr).alloc o).then_ (Chg.of_grown hg (fun q e => .inl e)) (fun _ _ h => h)
  exact hd.chg hc4 (own_off ho hd ht)
theorem grow_own {v u v4 : Value} {o : Obj} {w4 : World} {d i base k base' k' : Nat} {e t : TypeId} {cs : Array Value} {xs xs' : List Value} (hg : (wr.alloc o).grownBy w4 v.ownBlock) (ho : wr.ownsRow base e 1 v k xs) (hd : Blk wr d t cs) (ht : t ≠ e) (h4 : w4.ownsRow base' e 1 v4 k' xs') : (w4.setCell ⟨d, i, none⟩ u).ownsRow base' e 1 v4 k' xs' := by
  have hc4 : Chg (fun q => v.ownBlock = some q) wr w4 := ((Chg.refl _ wr).alloc o).then_ (Chg.of_grown hg (fun q e => .inl e)) (fun _ _ h => h)
  refine own_chg h4 ((Chg.refl (fun q => q = d) w4).own i u) fun q hq e => ?_
  subst e
  exact own_off h4 (hd.chg hc4 (own_off ho hd ht)) ht hq
theorem NR.bel_ (h : NR w wr n z ka kb kc gs dv wv bv) {S : Nat → Prop} (hc : Chg S wr W) (hS : ∀ q, S q → w.heap.size ≤ q) : Below w.heap.size w W := h.bel.trans (hc.below h.bel.size (fun k hk e => by have := hS k e; omega))
theorem NR.data (h : NR w wr n z ka kb kc gs dv wv bv) {g cap g4 cap4 : Nat} {o : Obj} {w4 : World} (hr : Ob wr w.heap.size 5 g z cap (List.replicate z 255))
    (h4 : w4.ownsRow w.heap.size 38 1 (.slice (some ⟨g4, 0, none⟩) (ka + 1) cap4) (ka + 1) (gs.map (slc z) ++ [slc z (g, cap)])) (hg : (wr.alloc o).grownBy w4 dv.ownBlock) :
    NR w (w4.setCell ⟨w.heap.size + 1 + 1, 2, none⟩ (.slice (some ⟨g4, 0, none⟩) (ka + 1) cap4)) n z (ka + 1) kb kc (gs ++ [(g, cap)]) (.slice (some ⟨g4, 0, none⟩) (ka + 1) cap4) wv bv := by
  have hc := grow_chg (d := w.heap.size + 1 + 1) (i := 2) (u := .slice (some ⟨g4, 0, none⟩) (ka + 1) cap4) hg
  have hrows : ∀ p ∈ gs ++ [(g, cap)], Ob wr w.heap.size 5 p.1 z p.2 (List.replicate z 255) := fun p hp => by
    rcases List.mem_append.1 hp with hp | hp
    · exact h.rows p hp
    · rw [List.mem_singleton] at hp
      subst hp
      exact hr
  exact ⟨h.geo.chg hc (fun e => e.elim (own_off h.od h.geo (by decide)) (by omega)), h.res.chg hc (fun e => e.elim (own_off h.od h.res (by decide)) (by omega)), grow_dev hg h.od h.dev (by decide), by
    have e1 : (gs ++ [(g, cap)]).map (slc z) = gs.map (slc z) ++ [slc z (g, cap)] := by simp
    rw [e1]
    exact grow_own hg h.od h.dev (by decide) h4,
    own_chg h.ow hc (fun q hq e => e.elim (own_two h.ow h.od (by decide) hq) (fun e => by subst e; exact own_off h.ow h.dev (by decide) hq)), own_chg h.ob hc (fun q hq e => e.elim (own_two h.ob h.od (by decide) hq) (fun e => by subst e; exact own_off h.ob h.dev (by decide) hq)),
    rows_chg hrows hc (fun q cs hb e => e.elim (own_off h.od hb (by decide)) (fun e => Blk.ne_ hb h.dev (by decide) e)), by simp [h.len], h.bel_ hc (fun q e => e.elim (fun e => (h.od.lt q e).1) (fun e => by omega))⟩
theorem NR.wear (h : NR w wr n z ka kb kc gs dv wv bv) {g4 cap4 : Nat} {o : Obj} {w4 : World}
    (h4 : w4.ownsRow w.heap.size 3 1 (.slice (some ⟨g4, 0, none⟩) (kb + 1) cap4) (kb + 1) (List.replicate kb (.int .i64 0) ++ [.int .i64 0])) (hg : (wr.alloc o).grownBy w4 wv.ownBlock) :
    NR w (w4.setCell ⟨w.heap.size + 1 + 1, 3, none⟩ (.slice (some ⟨g4, 0, none⟩) (kb + 1) cap4)) n z ka (kb + 1) kc gs dv (.slice (some ⟨g4, 0, none⟩) (kb + 1) cap4) bv := by
  have hc := grow_chg (d := w.heap.size + 1 + 1) (i := 3) (u := .slice (some ⟨g4, 0, none⟩) (kb + 1) cap4) hg
  exact ⟨h.geo.chg hc (fun e => e.elim (own_off h.ow h.geo (by decide)) (by omega)), h.res.chg hc (fun e => e.elim (own_off h.ow h.res (by decide)) (by omega)), grow_dev hg h.ow h.dev (by decide),
    own_chg h.od hc (fun q hq e => e.elim (own_two h.od h.ow (by decide) hq) (fun e => by subst e; exact own_off h.od h.dev (by decide) hq)), by
    rw [List.replicate_succ']
    exact grow_own hg h.ow h.dev (by decide) h4, own_chg h.ob hc (fun q hq e => e.elim (own_two h.ob h.ow (by decide) hq) (fun e => by subst e; exact own_off h.ob h.dev (by decide) hq)),
    rows_chg h.rows hc (fun q cs hb e => e.elim (own_off h.ow hb (by decide)) (fun e => Blk.ne_ hb h.dev (by decide) e)), h.len, h.bel_ hc (fun q e => e.elim (fun e => (h.ow.lt q e).1) (fun e => by omega))⟩
theorem NR.bad (h : NR w wr n z ka kb kc gs dv wv bv) {g4 cap4 : Nat} {o : Obj} {w4 : World}
    (h4 : w4.ownsRow w.heap.size 4 1 (.slice (some ⟨g4, 0, none⟩) (kc + 1) cap4) (kc + 1) (List.replicate kc (.bool false) ++ [.bool false])) (hg : (wr.alloc o).grownBy w4 bv.ownBlock) :
    NR w (w4.setCell ⟨w.heap.size + 1 + 1, 4, none⟩ (.slice (some ⟨g4, 0, none⟩) (kc + 1) cap4)) n z ka kb (kc + 1) gs dv wv (.slice (some ⟨g4, 0, none⟩) (kc + 1) cap4) := by
  have hc := grow_chg (d := w.heap.size + 1 + 1) (i := 4) (u := .slice (some ⟨g4, 0, none⟩) (kc + 1) cap4) hg
  exact ⟨h.geo.chg hc (fun e => e.elim (own_off h.ob h.geo (by decide)) (by omega)), h.res.chg hc (fun e => e.elim (own_off h.ob h.res (by decide)) (by omega)), grow_dev hg h.ob h.dev (by decide),
    own_chg h.od hc (fun q hq e => e.elim (own_two h.od h.ob (by decide) hq) (fun e => by subst e; exact own_off h.od h.dev (by decide) hq)), own_chg h.ow hc (fun q hq e => e.elim (own_two h.ow h.ob (by decide) hq) (fun e => by subst e; exact own_off h.ow h.dev (by decide) hq)), by
    rw [List.replicate_succ']
    exact grow_own hg h.ob h.dev (by decide) h4,
    rows_chg h.rows hc (fun q cs hb e => e.elim (own_off h.ob hb (by decide)) (fun e => Blk.ne_ hb h.dev (by decide) e)), h.len, h.bel_ hc (fun q e => e.elim (fun e => (h.ob.lt q e).1) (fun e => by omega))⟩
/-- All is there. -/
theorem NR.ref (h : NR w wr n z n n n gs dv wv bv) (hn0 : 0 < n) (hn : n ≤ 64) (hz0 : 0 < z) (hz : z ≤ 4096) (hc : Chg (fun q => q = w.heap.size + 1) wr W) : Ref W w.heap.size n z 0 (St.new n z) (.agg (nc n z dv wv bv)) ∧ Below w.heap.size w W := by
  have hbel := h.bel_ hc (fun q e => by omega)
  have hod := h.od
  have how := h.ow
  have hob := h.ob
  have hres := h.res
  have hrow := h.rows
  have hlen := h.len
  obtain ⟨db, dc, rfl, hd1, hd2⟩ := hod.form hn0
  obtain ⟨wb, wc, rfl, hw1, hw2⟩ := how.form hn0
  obtain ⟨bb, bc, rfl, hb1, hb2⟩ := hob.form hn0
  have hg : ∀ i, i < n → ∃ p ∈ gs, gs[i]? = some p ∧ gs.getD i (0, 0) = p := fun i hi => ⟨gs[i], List.getElem_mem (by omega), List.getElem?_eq_getElem (by omega), by rw [List.getD_eq_getElem?_getD, List.getElem?_eq_getElem (by omega)]; rfl⟩
  have hP : RefP wr w.heap.size n z 0 (St.new n z) db wb bb false 0 0 0 (fun i => (gs.getD i (0, 0)).1) (fun i => (gs.getD i (0, 0)).2) := by
    refine ⟨Row.of_own hod fun i hi => ?_, Row.of_own how fun i hi => ?_, Row.of_own hob fun i hi => ?_, fun i hi => ?_, .inl ⟨rfl, rfl⟩, Fits.new _ _ _, ⟨hn0, hn, hz0, hz⟩, by omega, by omega⟩
    · obtain ⟨p, hp, e, e'⟩ := hg i hi
      rw [List.getElem?_map, e, e']
      rfl
    · show _ = some (Value.int .i64 ((List.replicate n 0).getD i 0))
      rw [replicate_getD, if_pos hi, List.getElem?_replicate, if_pos hi]
    · show _ = some (Value.bool ((List.replicate n false).getD i false))
      rw [replicate_getD, if_pos hi, List.getElem?_replicate, if_pos hi]
    · obtain ⟨p, hp, e, e'⟩ := hg i hi
      have hr := hrow p hp
      show Bs wr (some ⟨(gs.getD i (0, 0)).1, 0, none⟩) z ((List.replicate n (List.replicate z 255)).getD i []) ∧ _
      rw [e', replicate_getD, if_pos hi]
      exact ⟨hr.bs, ⟨hr.place.1, (own_cap hr.2.2).1, (own_cap hr.2.2).2⟩, hr.place.2⟩
  exact ⟨Ref.of rfl (RefP.other hP hres hc) ⟨(own_cap hod).1, (own_cap how).1, (own_cap hob).1, (own_cap hod).2, (own_cap how).2, (own_cap hob).2⟩, hbel⟩
theorem NR.start {n z : Nat} {w W : World} {g0 : Array Value} (hW : ((w.alloc (.cells #[.int .i64 n, .int .i64 z] 23)).alloc (.cells zeroRef 35)).alloc (.cells g0 35) = wr)
    (hb : Blk W (w.heap.size + 1 + 1) 35 (nc n z (.slice none 0 0) (.slice none 0 0) (.slice none 0 0))) (hc : Chg (fun q => q = w.heap.size + 1 + 1) wr W) : NR w W n z 0 0 0 [] (.slice none 0 0) (.slice none 0 0) (.slice none 0 0) := by
  have h1 : Blk wr w.heap.size 23 #[.int .i64 n, .int .i64 z] := by rw [← hW]; exact ((Blk.new w _ _).alloc _).alloc _
  have h2 : Blk wr (w.heap.size + 1) 35 zeroRef := by
    rw [← hW]
    have := (Blk.new (w.alloc (.cells #[.int .i64 n, .int .i64 z] 23)) 35 zeroRef).alloc (.cells g0 35)
    simpa using this
  have h3 : Below w.heap.size w wr := by rw [← hW]; exact (two_allocs w _ _).alloc (by simp; omega) _
  exact ⟨h1.chg hc (by omega), h2.chg hc (by omega), hb, World.ownsRow_nil _ _ _ _, World.ownsRow_nil _ _ _ _, World.ownsRow_nil _ _ _ _, fun p hp => (by cases hp), rfl, h3.trans (hc.below h3.size (fun k hk e => by omega))⟩
end

theorem size_set (W : World) (p : Addr) (u : Value) : (W.setCell p u).heap.size = W.heap.size := by simp [World.setCell]
theorem news_set (W : World) (p : Addr) (u : Value) (cs : Array Value) (t : TypeId) : ((W.setCell p u).alloc (.cells cs t)).heap[W.heap.size]? = some (.cells cs t (0, 0)) := by
  rw [← size_set W p u]
  exact heap_alloc_new _ _
theorem one_bs (w : World) : Bs (w.alloc (.cells #[.int .u8 255] 5)) (some ⟨w.heap.size, 0, none⟩) 1 [255] := by
  refine ⟨rfl, fun x hx => by simp at hx; omega, fun k hk => ⟨w.heap.size, 0, rfl, by simp, ?_⟩⟩
  obtain rfl : k = 0 := by omega
  exact (Blk.new w 5 #[.int .u8 255]).cell 0
set_option maxRecDepth 100000 in
set_option maxHeartbeats 2000000 in
theorem refNew_calls (n z : Nat) (w : World) (hn0 : 0 < n) (hn : n ≤ 64) (hz0 : 0 < z) (hz : z ≤ 4096) : Calls Try.prog 10 #[.agg #[.int .i64 n, .int .i64 z]] w
    fun e w' => ∃ v, e = .returned v ∧ Ref w' w.heap.size n z 0 (St.new n z) v ∧ Below w.heap.size w w' := by
  go_enter Try.func10, Try.ntmps10
  go_wp2_with fail
  have hb2 : Blk (((w.alloc (.cells #[.int .i64 n, .int .i64 z] 23)).alloc (.cells zeroRef 35)).alloc (.cells (nc n z (.slice none 0 0) (.slice none 0 0) (.slice none 0 0)) 35)) (w.heap.size + 1 + 1) 35 (nc n z (.slice none 0 0) (.slice none 0 0) (.slice none 0 0)) := by
    have := Blk.new ((w.alloc (.cells #[.int .i64 n, .int .i64 z] 23)).alloc (.cells zeroRef 35)) 35 (nc n z (.slice none 0 0) (.slice none 0 0) (.slice none 0 0))
    simpa using this
  have HN := Lib.hid (NR.start rfl hb2 (Chg.refl _ _))
  clear hb2
  go_loopw [4] (fun i wr => ∃ (k : Nat) (gs : List (Nat × Nat)) (dv wv bv : Value), k ≤ n ∧ i = .int .i64 k ∧ NR w wr n z k k k gs dv wv bv) (fun i _ => n - (intOf i).toNat)
  case atStart => exact ⟨0, [], _, _, _, by omega, rfl, HN.out⟩
  case round =>
    clear HN
    obtain ⟨k, gs, dv, wv, bv, hk, rfl, hN⟩ := hrel
    have kg0 : wr.cell? ⟨w.heap.size, 0, none⟩ = some (.int .i64 n) := hN.geo.cell 0
    by_cases hlt : k < n
    · have HN := Lib.hid hN
      clear hN
      rename World => wo
      go_wp2_with fail
      go_loopw [5, 6] (fun l q wr => ∃ (j g cap : Nat), j ≤ z ∧ l = .slice (some ⟨g, 0, none⟩) j cap ∧ q = .int .i64 j ∧ Ob wr wo.heap.size 5 g j cap (List.replicate j 255) ∧ Below wo.heap.size wo wr) (fun _ q _ => z - (intOf q).toNat)
      case atStart => exact ⟨0, wo.heap.size, 0, by omega, rfl, rfl, Ob.new_ wo _ (Nat.le_refl _), (Below.refl _ _).alloc (Nat.le_refl _) _⟩
      case round =>
        obtain ⟨j, g, cap, hj, rfl, rfl, hO, hB⟩ := hrel
        have HN2 := Lib.hid (HN.out.below hB)
        have kg1 : wr.cell? ⟨w.heap.size, 1, none⟩ = some (.int .i64 z) := HN2.out.geo.cell 1
        have HO := Lib.hid hO
        have HB := Lib.hid hB
        have hgp := hO.place
        clear hO hB
        by_cases hjl : j < z
        · go_wp2_with ((with_reducible refine pick (some 24) ?_); refine wpList_append_bytes rfl _ _ _ rfl wo.heap.size 5 Try.underlying38 info_u8 g j cap (List.replicate j 255) rfl (HO.out.below ((Below.refl _ _).alloc (Nat.le_refl _) _)) (some ⟨wr.heap.size, 0, none⟩) 1 1 [255] rfl (one_bs wr) (fun e => by cases e) (j + 1) rfl (List.replicate (j + 1) 255) (by simp [List.replicate_succ']) (by omega) (by have := HB.out.size; simp; omega) ?_; intro g2 cap2 w2 ho2 hg2 hat2; have HO2 := Lib.hid ho2; have HG2 := Lib.hid hg2; clear ho2 hg2 hat2)
          have hb2 : Below wo.heap.size wo w2 := (HB.out.alloc HB.out.size _).grown HG2.out (by have := HB.out.size; simp; omega) (fun q e => by injection e with e; omega)
          go_roundw
          case rel => exact ⟨j + 1, g2, cap2, by omega, rfl, by go_num, HO2.out, hb2⟩
          case measure => simp [intOf]; omega
        · obtain rfl : j = z := by omega
          have hwi : w.heap.size ≤ wr.heap.size := HN2.out.bel.size
          have k2 : wr.cell? ⟨w.heap.size + 1 + 1, 2, none⟩ = some dv := HN2.out.dev.cell 2
          have l2 : w.heap.size + 1 + 1 < wr.heap.size := HN2.out.dev.lt
          have HO3 := Lib.hid (HO.out.base (by have := HN.out.bel.size; omega : w.heap.size ≤ wo.heap.size))
          obtain ⟨i1, a1, a2, a3, a4⟩ := info_parts info_bytes
          obtain ⟨i2, b1, b2, b3, b4⟩ := info_parts info_int
          obtain ⟨i3, c1, c2, c3, c4⟩ := info_parts info_bool
          go_wp2_with (first
            | ((with_reducible refine pick (some 29) ?_); refine wpList_append_lies _ rfl _ _ _ rfl w.heap.size 38 i1 _ 1 24 Try.underlying31 a1 a2 a3 a4 rfl (by omega) dv k (gs.map (slc j)) rfl (HN2.out.od.alloc _) ⟨wr.heap.size, 0, none⟩ 1 1 [slc j (g, cap)] rfl rfl (World.news_of_block (heap_alloc_new wr _)) (by simp [slc, Value.oneCell']) (by omega) (by unfold maxLen; omega) (by omega) (by simp; omega) _ rfl ?_; intro g4 cap4 w4 hown4 hg4 hat4 hlt4; have D4 := grow_blk hg4 HN2.out.od HN2.out.dev (by decide); have k42 : w4.cell? ⟨w.heap.size + 1 + 1, 2, none⟩ = some dv := D4.cell 2; have f42 := D4.frozen 2; have k43 : w4.cell? ⟨w.heap.size + 1 + 1, 3, none⟩ = some wv := D4.cell 3; have l4 : w.heap.size + 1 + 1 < w4.heap.size := D4.lt; have HN3 := Lib.hid (NR.data HN2.out HO3.out hown4 hg4); have HLT4 := Lib.hid hlt4; clear D4 hown4 hg4 hat4 hlt4)
            | ((with_reducible refine pick (some 34) ?_); refine wpList_append_lies _ rfl _ _ _ rfl w.heap.size 3 i2 _ 1 8 Try.underlying32 b1 b2 b3 b4 rfl (by omega) wv k (List.replicate k (.int .i64 0)) rfl (HN3.out.ow.alloc _) ⟨w4.heap.size, 0, none⟩ 1 1 [.int .i64 0] rfl rfl (World.news_of_block (news_set _ _ _ _ _)) (by simp [Value.oneCell']) (by omega) (by unfold maxLen; omega) (by omega) (by simp [World.setCell]; omega) _ rfl ?_; intro g5 cap5 w5 hown5 hg5 hat5 hlt5; have D5 := grow_blk hg5 HN3.out.ow HN3.out.dev (by decide); have k53 : w5.cell? ⟨w.heap.size + 1 + 1, 3, none⟩ = some wv := D5.cell 3; have f53 := D5.frozen 3; have k54 : w5.cell? ⟨w.heap.size + 1 + 1, 4, none⟩ = some bv := D5.cell 4; have l5 : w.heap.size + 1 + 1 < w5.heap.size := D5.lt; have HN4 := Lib.hid (NR.wear HN3.out hown5 hg5); clear D5 hown5 hg5 hat5 hlt5)
            | ((with_reducible refine pick (some 39) ?_); refine wpList_append_lies _ rfl _ _ _ rfl w.heap.size 4 i3 _ 1 1 Try.underlying33 c1 c2 c3 c4 rfl (by omega) bv k (List.replicate k (.bool false)) rfl (HN4.out.ob.alloc _) ⟨w5.heap.size, 0, none⟩ 1 1 [.bool false] rfl rfl (World.news_of_block (news_set _ _ _ _ _)) (by simp [Value.oneCell']) (by omega) (by unfold maxLen; omega) (by omega) (by simp [World.setCell]; omega) _ rfl ?_; intro g6 cap6 w6 hown6 hg6 hat6 hlt6; have D6 := grow_blk hg6 HN4.out.ob HN4.out.dev (by decide); have k64 : w6.cell? ⟨w.heap.size + 1 + 1, 4, none⟩ = some bv := D6.cell 4; have f64 := D6.frozen 4; have l6 : w.heap.size + 1 + 1 < w6.heap.size := D6.lt; have HN5 := Lib.hid (NR.bad HN4.out hown6 hg6); clear D6 hown6 hg6 hat6 hlt6))
          go_roundw
          case rel => exact ⟨k + 1, gs ++ [(g, cap)], _, _, _, by omega, by go_num, HN5.out⟩
          case measure => simp [intOf]; omega
    · obtain rfl : k = n := by omega
      have hod := hN.od
      have how := hN.ow
      have hob := hN.ob
      obtain ⟨db, dc, rfl, _, _⟩ := hod.form hn0
      obtain ⟨wb, wc, rfl, _, _⟩ := how.form hn0
      obtain ⟨bb, bc, rfl, _, _⟩ := hob.form hn0
      clear hod how hob
      have HN := Lib.hid hN
      clear hN
      go_wp2_with (first
        | ((with_reducible refine pick (some 41) ?_); refine wpList_load_row rfl _ _ rfl (w.heap.size + 1 + 1) rfl 35 (nc k z (.slice (some ⟨db, 0, none⟩) k dc) (.slice (some ⟨wb, 0, none⟩) k wc) (.slice (some ⟨bb, 0, none⟩) k bc)) (0, 0) _ HN.out.dev Try.underlying35 rfl info_ref ?_)
        | ((with_reducible refine pick none ?_); refine wpList_store_blk rfl 35 _ _ rfl (w.heap.size + 1) (nc k z (.slice (some ⟨db, 0, none⟩) k dc) (.slice (some ⟨wb, 0, none⟩) k wc) (.slice (some ⟨bb, 0, none⟩) k bc)) rfl rfl 35 zeroRef HN.out.res info_ref rfl (by simp [nc, Value.oneCell']) ?_; intro w4 hb4 hg4))
      exact bodyPost_ret (v := .agg (nc k z (.slice (some ⟨db, 0, none⟩) k dc) (.slice (some ⟨wb, 0, none⟩) k wc) (.slice (some ⟨bb, 0, none⟩) k bc))) (results_cell_row rfl _ _ (w.heap.size + 1) 35 _ (0, 0) _ rfl hb4 Try.underlying35 rfl info_ref) rfl ⟨_, rfl, HN.out.ref hn0 hn hz0 hz hg4⟩
end Go.Proofs.Ytdcmpkohengnaaa.NorI
