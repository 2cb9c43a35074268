/- Merged: NorO NorQ. -/
import Derived.Deep.AppendLies
import Derived.Test.YthbafcihmcjchaaGreatDoorScanAllMBU
import Derived.Deep.RegionLaw
import Derived.OneCell
/- The contract of 'New': a device whose sectors are all 255. -/
namespace Go.Proofs.YthbafcihmcjchaaGreatDoor.NorO
set_option linter.unusedVariables false
set_option linter.unusedSimpArgs false
open Go.RowKit Go.Maps
open Go.Proofs.YthbafcihmcjchaaGreatDoor.Byte Go.Proofs.YthbafcihmcjchaaGreatDoor.NorD Go.Proofs.YthbafcihmcjchaaGreatDoor.NorW Go.Proofs.YthbafcihmcjchaaGreatDoor.NorM Go.Proofs.YthbafcihmcjchaaGreatDoor.NorS Go.Proofs.YthbafcihmcjchaaGreatDoor.NorF Go.Proofs.YthbafcihmcjchaaGreatDoor.NorN

def may (n z : Int) : Bool := decide (6 ≤ n ∧ n ≤ 64 ∧ 512 ≤ z ∧ z ≤ 4096)
theorem may_ways {n z : Int} (h : may n z = false) : n < 6 ∨ (6 ≤ n ∧ 64 < n) ∨ (6 ≤ n ∧ n ≤ 64 ∧ z < 512) ∨ (6 ≤ n ∧ n ≤ 64 ∧ 512 ≤ z ∧ 4096 < z) := by
  unfold may at h
  rw [decide_eq_false_iff_not] at h
  omega
theorem may_yes {n z : Int} (h : may n z = true) : 6 ≤ n ∧ n ≤ 64 ∧ 512 ≤ z ∧ z ≤ 4096 := by
  unfold may at h
  rwa [decide_eq_true_eq] at h

set_option maxHeartbeats 400000 in
theorem may_calls (n z : Int) (w : World) : Calls Tryz.prog 17 #[.agg #[.int .i64 n, .int .i64 z]] w fun e w' => e = .returned (.bool (may n z)) ∧ w.alloc (.cells #[.int .i64 n, .int .i64 z] 28) = w' := by
  cases h : may n z
  · rcases may_ways h with h1 | ⟨h1, h2⟩ | ⟨h1, h2, h3⟩ | ⟨h1, h2, h3, h4⟩
    all_goals
      clear h
      go_enter Tryz.func17, Tryz.ntmps17
      go_wp2
      go_ret
      first | exact ⟨rfl, rfl⟩ | exact ⟨Byte.ret_bool (by rw [decide_eq_false_iff_not]; omega), rfl⟩
  · obtain ⟨h1, h2, h3, h4⟩ := may_yes h
    clear h
    go_enter Tryz.func17, Tryz.ntmps17
    go_wp2
    go_ret
    first | exact ⟨rfl, rfl⟩ | exact ⟨Byte.ret_bool (by rw [decide_eq_true_eq]; omega), rfl⟩

/-- What a sector's struct holds. -/
def pair (z : Nat) (p : Nat × Nat) : List Value := [.slice (some ⟨p.1, 0, none⟩) z z, .int .i64 0]
/-- Some sectors are there. -/
structure Some_ (w : World) (lo z : Nat) (gs : List (Nat × Nat)) (sv : Value) : Prop where
  own : w.ownsRow lo 67 2 sv gs.length (gs.flatMap (pair z))
  rows : ∀ p ∈ gs, Ob w lo 5 p.1 z p.2 (List.replicate z 255)
  apart : (gs.map (·.1)).Nodup
theorem flat_len (z : Nat) : ∀ gs : List (Nat × Nat), (gs.flatMap (pair z)).length = gs.length * 2
  | [] => rfl
  | p :: r => by rw [List.flatMap_cons, List.length_append, flat_len z r, List.length_cons]; show 2 + _ = _; omega
theorem flat_at (z : Nat) : ∀ (gs : List (Nat × Nat)) (i : Nat), i < gs.length → (gs.flatMap (pair z))[i * 2]? = some (.slice (some ⟨(gs.getD i (0, 0)).1, 0, none⟩) z z) ∧ (gs.flatMap (pair z))[i * 2 + 1]? = some (.int .i64 0)
  | [], i, h => by simp at h
  | p :: r, 0, _ => ⟨rfl, rfl⟩
  | p :: r, i + 1, h => by
    have ih := flat_at z r i (by simpa using h)
    rw [List.flatMap_cons]
    have e1 : (i + 1) * 2 = i * 2 + 2 := by omega
    have hl : (pair z p).length = 2 := rfl
    rw [e1, List.getElem?_append_right (by rw [hl]; omega), List.getElem?_append_right (by rw [hl]; omega), hl]
    exact ih
theorem Some_.of_chg {S : Nat → Prop} {w w' : World} {lo z : Nat} {gs : List (Nat × Nat)} {sv : Value} (h : Some_ w lo z gs sv) (hg : Chg S w w') (hS : ∀ k, S k → sv.ownBlock ≠ some k ∧ ∀ p ∈ gs, p.1 ≠ k) : Some_ w' lo z gs sv := by
  refine ⟨⟨h.own.1, ?_⟩, fun p hp => (h.rows p hp).chg hg (fun e => (hS _ e).2 p hp rfl), h.apart⟩
  rcases h.own.2 with h' | ⟨g', cap', cur, h1, h2, h3, r⟩
  · exact .inl h'
  · refine .inr ⟨g', cap', cur, h1, h2, ?_, r⟩
    exact (hg.block g' (Array.getElem?_eq_some_iff.1 h3).1 (fun e => (hS _ e).1 (by rw [h1]; rfl))).trans h3
theorem info_sec : (Tryz.prog.info? 67).map (fun i => (i.zero, i.size, i.bytes)) = some (some (.agg #[.slice none 0 0, .int .i64 0]), 2, 32) := by kernel_rfl
end Go.Proofs.YthbafcihmcjchaaGreatDoor.NorO

/- The walk of 'New'. -/
namespace Go.Proofs.YthbafcihmcjchaaGreatDoor.NorQ
set_option linter.unusedVariables false
set_option linter.unusedSimpArgs false
open Go.RowKit Go.Maps
open Go.Proofs.YthbafcihmcjchaaGreatDoor.Byte Go.Proofs.YthbafcihmcjchaaGreatDoor.NorD Go.Proofs.YthbafcihmcjchaaGreatDoor.NorW Go.Proofs.YthbafcihmcjchaaGreatDoor.NorM Go.Proofs.YthbafcihmcjchaaGreatDoor.NorS Go.Proofs.YthbafcihmcjchaaGreatDoor.NorF Go.Proofs.YthbafcihmcjchaaGreatDoor.NorN Go.Proofs.YthbafcihmcjchaaGreatDoor.NorO

set_option maxHeartbeats 400000 in
theorem new_no (n z : Int) (w : World) (h : may n z = false) : Calls Tryz.prog 4 #[.agg #[.int .i64 n, .int .i64 z]] w fun e w' => e = .returned (.tuple #[.pointer none, .int .i64 1]) ∧ Below w.heap.size w w' := by
  have HC := Lib.hid (may_calls n z (w.alloc (.cells #[.int .i64 n, .int .i64 z] 28)))
  rw [h] at HC
  have hb : Below w.heap.size w ((w.alloc (.cells #[.int .i64 n, .int .i64 z] 28)).alloc (.cells #[.int .i64 n, .int .i64 z] 28)) := ((Below.refl _ _).alloc (Nat.le_refl _) _).alloc (by simp) _
  have HB := Lib.hid hb
  clear hb h
  go_enter Tryz.func4, Tryz.ntmps4
  go_wp2_with (go_at_call 17; refine (HC.out).mono ?_; rintro e w' ⟨rfl, rfl⟩)
  go_ret2
  exact ⟨rfl, HB.out⟩

def newCells (n z mb : Nat) (sv : Value) : Array Value := #[.int .i64 n, .int .i64 z, sv, .map (some mb), .bool true, .bool false, .int .i64 0, .int .i64 0, .int .u8 0, .int .i64 0, .int .i64 0]
/-- A new device of which k sectors are there. -/
def NewAt (lo gb d mb n z : Nat) (w wr : World) (k : Nat) : Prop :=
  ∃ (gs : List (Nat × Nat)) (sv : Value), gs.length = k ∧ Some_ wr lo z gs sv ∧ Blk wr d 64 (newCells n z mb sv) ∧ Blk wr gb 28 #[.int .i64 n, .int .i64 z] ∧ BadAt wr mb n 0 (List.replicate n false) ∧ Below lo w wr
theorem newAt_zero (n z : Nat) (w : World) : NewAt w.heap.size w.heap.size (w.heap.size + 1 + 1 + 1) (w.heap.size + 1 + 1) n z w ((((w.alloc (.cells #[.int .i64 n, .int .i64 z] 28)).alloc (.cells #[.int .i64 n, .int .i64 z] 28)).alloc (.map #[] 0)).alloc
    (.cells #[.int .i64 n, .int .i64 z, .slice none 0 0, .map (some (w.heap.size + 1 + 1)), .bool true, .bool false, .int .i64 0, .int .i64 0, .int .u8 0, .int .i64 0, .int .i64 0] 64)) 0 := by
  obtain ⟨A, hA⟩ : ∃ A, (w.alloc (.cells #[.int .i64 n, .int .i64 z] 28)).alloc (.cells #[.int .i64 n, .int .i64 z] 28) = A := ⟨_, rfl⟩
  have hs : A.heap.size = w.heap.size + 1 + 1 := by rw [← hA]; simp
  have hg : Blk A w.heap.size 28 #[.int .i64 n, .int .i64 z] := by rw [← hA]; exact (Blk.new w _ _).alloc _
  have hb : Below w.heap.size w A := by rw [← hA]; exact ((Below.refl _ _).alloc (Nat.le_refl _) _).alloc (by simp) _
  rw [hA, ← hs]
  have hm := World.ownsMap_made A Tryz.prog 3 (unitElem (H := Unit))
  refine ⟨[], .slice none 0 0, rfl, ⟨World.ownsRow_nil _ _ _ _, fun p hp => (by cases hp), List.Pairwise.nil⟩, ?_, ((hg.alloc _).alloc _), ?_, ((hb.alloc (by omega) _).alloc (by simp; omega) _)⟩
  · have : (A.alloc (.map #[] 0)).heap.size = A.heap.size + 1 := by simp
    rw [← this]
    exact Blk.new _ _ _
  · refine BadAt.of_eq ⟨_, hm, ⟨_, rfl⟩, fun i hi => ?_⟩ (Below.heap_alloc _ _ _ (by simp))
    rw [replicate_getD, if_pos hi]
    rfl

theorem new_own {wr W2 : World} {lo z k : Nat} {gs : List (Nat × Nat)} {sv : Value} {o : Obj} (hl : gs.length = k) (h : Some_ wr lo z gs sv) (hb : Below wr.heap.size wr W2) : (W2.alloc o).ownsRow lo 67 2 sv k (gs.flatMap (pair z)) := by
  subst hl
  exact (h.own.kept (row := none) ⟨hb.os, hb.tape, hb.output, hb.size, fun k hk _ => hb.block k hk⟩ (by cases sv.ownBlock <;> simp)).alloc o
theorem pair_one (z : Nat) (p : Nat × Nat) : ∀ u ∈ pair z p, u.oneCell' = true := by
  intro u hu
  simp only [pair, List.mem_cons, List.not_mem_nil, or_false] at hu
  rcases hu with rfl | rfl <;> rfl
theorem own_ne {wr : World} {lo z g : Nat} {gs : List (Nat × Nat)} {sv : Value} {t : TypeId} {cs : Array Value} (h : Some_ wr lo z gs sv) (hb : Blk wr g t cs) (ht : (t == 67) = false := by decide) : some g ≠ sv.ownBlock := by
  intro e
  rcases h.own.2 with ⟨rfl, _⟩ | ⟨g', cap', cur, rfl, _, h3, _⟩
  · cases e
  · injection e with e
    have e : g = g' := e
    subst e
    exact Blk.ne_ hb h3 (fun e' => by rw [e'] at ht; simp at ht) rfl

theorem ob_blk {w : World} {lo g n cap : Nat} {e : TypeId} {xs : List Int} (h : Ob w lo e g n cap xs) : ∃ cur, Blk w g e cur := by
  obtain ⟨cur, hh, _⟩ := h.row
  exact ⟨cur, hh⟩
theorem newAt_step {lo gb d mb n z k : Nat} {w wr W2 w4 : World} {gs : List (Nat × Nat)} {sv : Value} {g cap g4 cap4 B : Nat} {o : Obj} (hlo : lo ≤ d) (hgl : gs.length = k) (hsome : Some_ wr lo z gs sv) (hbd : Blk wr d 64 (newCells n z mb sv)) (hbg : Blk wr gb 28 #[.int .i64 n, .int .i64 z])
    (hbad : BadAt wr mb n 0 (List.replicate n false)) (hbel : Below lo w wr) (hlw : True) (ho2 : Ob W2 B 5 g z cap (List.replicate z 255)) (hB : wr.heap.size ≤ B) (hb3 : Below wr.heap.size wr W2)
    (hown4 : w4.ownsRow lo 67 2 (.slice (some ⟨g4, 0, none⟩) (k + 1) cap4) (k + 1) (gs.flatMap (pair z) ++ pair z (g, cap))) (hg4 : (W2.alloc o).grownBy w4 sv.ownBlock) (hat : sv.ownBlock = some g4 ∨ g4 = W2.heap.size + 1) :
    NewAt lo gb d mb n z w (w4.setCell ⟨d, 2, none⟩ (.slice (some ⟨g4, 0, none⟩) (k + 1) cap4)) (k + 1) := by
  subst hgl
  have hc4 : Chg (fun q => sv.ownBlock = some q) wr w4 := ((Chg.of_below hb3).alloc o).then_ (Chg.of_grown hg4 (fun q e => .inl e)) (fun _ _ h => h)
  have hc5 : Chg (fun q => sv.ownBlock = some q ∨ q = d) wr (w4.setCell ⟨d, 2, none⟩ (.slice (some ⟨g4, 0, none⟩) (gs.length + 1) cap4)) := (hc4.mono (fun _ _ h => .inl h)).setCell (.inl (.inr rfl)) _
  have hsl := hsome.own.lt
  have hdn : ¬ sv.ownBlock = some d := fun e => own_ne hsome hbd (by decide) e.symm
  have hd4 := hbd.chg hc4 hdn
  have hgd : g4 ≠ d := by
    rcases hown4.2 with ⟨h', _⟩ | ⟨g', cap', cur, h', _, h3, _⟩
    · cases h'
    · injection h' with h' _ _
      injection h' with h'
      injection h' with h'
      subst h'
      exact Blk.ne_ (t := 67) h3 hd4 (by decide)
  have hgB := ho2.place.1
  have hln := hbd.lt
  refine ⟨gs ++ [(g, cap)], .slice (some ⟨g4, 0, none⟩) (gs.length + 1) cap4, by simp, ⟨?_, fun p hp => ?_, ?_⟩, ?_, ?_, ?_, ?_⟩
  · have e1 : (gs ++ [(g, cap)]).flatMap (pair z) = gs.flatMap (pair z) ++ pair z (g, cap) := by simp [List.flatMap_append]
    have e2 : (gs ++ [(g, cap)]).length = gs.length + 1 := by simp
    rw [e1, e2]
    exact ownsRow_setCell_other (a := ⟨d, 2, none⟩) hown4 (fun e => hgd (Option.some.inj e)) _
  · rcases List.mem_append.1 hp with hp | hp
    · have h := hsome.rows p hp
      obtain ⟨cur, hh⟩ := ob_blk h
      exact h.chg hc5 (fun e => e.elim (fun e => own_ne hsome hh (by decide) e.symm) (Blk.ne_ hh hbd (by decide)))
    · rw [List.mem_singleton] at hp
      subst hp
      have h1 : Ob w4 B 5 g z cap (List.replicate z 255) := (ho2.chg (Chg.of_below (S := fun _ => False) ((Below.refl _ W2).alloc (Nat.le_refl _) o)) (fun h => h)).grown hg4 (fun e => by have := (hsl _ e).2; omega)
      have h2 : Chg (fun q => q = d) w4 (w4.setCell ⟨d, 2, none⟩ (.slice (some ⟨g4, 0, none⟩) (gs.length + 1) cap4)) := (Chg.refl _ w4).own 2 _
      exact (h1.chg h2 (by omega)).base (by have := hbel.size; have := hb3.size; have := hsl; omega)
  · rw [List.map_append, List.nodup_append]
    refine ⟨hsome.apart, by simp, fun a ha b hb => ?_⟩
    obtain ⟨p, hp, rfl⟩ := List.mem_map.1 ha
    have := (hsome.rows p hp).place.2
    simp at hb
    omega
  · exact hd4.set_ 2 _
  · exact hbg.chg hc5 (fun e => e.elim (fun e => own_ne hsome hbg (by decide) e.symm) (Blk.ne_ hbg hbd (by decide)))
  · refine hbad.of_eq (hc5.block mb hbad.lt (fun e => e.elim (fun e => ?_) (fun e => blk_ne_map hbd hbad e.symm)))
    rcases hsome.own.2 with ⟨rfl, _⟩ | ⟨g', cap', cur, rfl, _, h3, _⟩
    · cases e
    · exact blk_ne_map (g := g') h3 hbad (Option.some.inj e)
  · exact ⟨hc5.os.trans hbel.os, hc5.tape.trans hbel.tape, hc5.output.trans hbel.output, Nat.le_trans hbel.size hc5.size, fun q hq => (hc5.block q (by have := hsl; omega) (fun e => e.elim (fun e => by have := (hsl _ e).1; omega) (fun e => by omega))).trans (hbel.block q hq)⟩
theorem newAt_drew {lo gb d mb n z k : Nat} {w wr : World} (h : NewAt lo gb d mb n z w wr k) : NewAt lo gb d mb n z w wr.drew k := by
  obtain ⟨gs, sv, h1, h2, h3, h4, h5, h6⟩ := h
  exact ⟨gs, sv, h1, ⟨h2.own, h2.rows, h2.apart⟩, h3, h4, h5, h6.drew⟩
/-- All sectors are there: it is a new device. -/
theorem newAt_dev {lo gb d mb n z : Nat} {w wr : World} (h : NewAt lo gb d mb n z w wr n) (hlo : lo ≤ d) (hlm : lo ≤ mb) (hn0 : 0 < n) (hn : n ≤ 64) (hz0 : 0 < z) (hz : z ≤ 4096) : Dev wr lo wr.heap.size d n z 0 (St.new n z) ∧ Below lo w wr := by
  obtain ⟨gs, sv, h1, h2, h3, h4, h5, h6⟩ := h
  subst h1
  refine ⟨?_, h6⟩
  rcases h2.own.2 with ⟨_, h'⟩ | ⟨sb, scap, cur, rfl, hls, hsb, hc1, hc2, hc3, hc4⟩
  · omega
  · have hg : ∀ i, i < gs.length → ∃ p ∈ gs, gs.getD i (0, 0) = p := fun i hi => ⟨gs[i], List.getElem_mem hi, by rw [List.getD_eq_getElem?_getD, List.getElem?_eq_getElem hi]; rfl⟩
    refine ⟨sb, scap, mb, false, 0, 0, 0, fun i => (gs.getD i (0, 0)).1, fun i => (gs.getD i (0, 0)).2, h3, .inl ⟨rfl, rfl⟩, ⟨cur, hsb, fun i hi => ?_⟩, h5, fun i hi => ?_, fun i j hi hj hne => ?_, ⟨hlo, h3.lt⟩, ⟨hls, Blk.lt hsb⟩, ⟨hlm, h5.lt⟩, fun i hi => ?_, Nat.le_refl _, Fits.new _ _ _, ⟨hn0, hn, hz0, hz, hc1, by simpa [maxLen] using hc2⟩, by omega⟩
    · have hf := flat_at z gs i hi
      rw [← hc4] at hf
      rw [List.getElem?_take, List.getElem?_take, if_pos (by omega), if_pos (by omega), Array.getElem?_toList, Array.getElem?_toList] at hf
      refine ⟨hf.1, ?_⟩
      rw [hf.2]
      unfold St.new
      dsimp only
      rw [replicate_getD, if_pos hi]
    · obtain ⟨p, hp, e⟩ := hg i hi
      rw [e]
      have := h2.rows p hp
      unfold St.row St.new
      dsimp only
      rw [replicate_getD, if_pos hi]
      exact this
    · rw [List.getD_eq_getElem?_getD, List.getD_eq_getElem?_getD, List.getElem?_eq_getElem hi, List.getElem?_eq_getElem hj]
      intro e
      have hi' : i < (gs.map (·.1)).length := by simpa using hi
      have hj' : j < (gs.map (·.1)).length := by simpa using hj
      have hp := List.pairwise_iff_getElem.1 h2.apart
      rcases Nat.lt_or_gt_of_ne hne with h | h
      · exact hp i j hi' hj' h (by simpa using e)
      · exact hp j i hj' hi' h (by simpa using e.symm)
    · obtain ⟨p, hp, e⟩ := hg i hi
      rw [e]
      exact (h2.rows p hp).place.2

set_option maxRecDepth 100000 in
set_option maxHeartbeats 1000000 in
theorem new_yes (n z : Nat) (w : World) (h : may n z = true) : Calls Tryz.prog 4 #[.agg #[.int .i64 n, .int .i64 z]] w
    fun e w' => ∃ d, e = .returned (.tuple #[.pointer (some ⟨d, 0, none⟩), .int .i64 0]) ∧ Dev w' w.heap.size w'.heap.size d n z 0 (St.new n z) ∧ Below w.heap.size w w' := by
  obtain ⟨h1, h2, h3, h4⟩ := may_yes h
  have HC := Lib.hid (may_calls n z (w.alloc (.cells #[.int .i64 n, .int .i64 z] 28)))
  rw [h] at HC
  clear h
  have hmm := @run_makeMap Tryz.prog
  go_enter Tryz.func4, Tryz.ntmps4
  go_wp2_with (go_at_call 17; refine (HC.out).mono ?_; rintro e w' ⟨rfl, rfl⟩)
  obtain ⟨W0, hW0⟩ : ∃ W0, ((((w.alloc (.cells #[.int .i64 n, .int .i64 z] 28)).alloc (.cells #[.int .i64 n, .int .i64 z] 28)).alloc (.map #[] 0)).alloc
    (.cells #[.int .i64 n, .int .i64 z, .slice none 0 0, .map (some (w.heap.size + 1 + 1)), .bool true, .bool false, .int .i64 0, .int .i64 0, .int .u8 0, .int .i64 0, .int .i64 0] 64)) = W0 := ⟨_, rfl⟩
  have H0 : NewAt w.heap.size w.heap.size (w.heap.size + 1 + 1 + 1) (w.heap.size + 1 + 1) n z w W0 0 := by
    subst hW0
    exact newAt_zero n z w
  rw [hW0]
  clear hW0 hmm
  obtain ⟨d, hd⟩ : ∃ d, w.heap.size + 1 + 1 + 1 = d := ⟨_, rfl⟩
  obtain ⟨mb, hmb⟩ : ∃ mb, w.heap.size + 1 + 1 = mb := ⟨_, rfl⟩
  rw [hd, hmb] at H0 ⊢
  have hlo : w.heap.size ≤ d := by omega
  have hlm : w.heap.size ≤ mb := by omega
  clear hd hmb
  go_loopw [14] (fun i wr => ∃ k : Nat, k ≤ n ∧ i = .int .i64 k ∧ NewAt w.heap.size w.heap.size d mb n z w wr k) (fun i _ => n - (intOf i).toNat)
  case atStart => exact ⟨0, by omega, rfl, H0⟩
  case round =>
    clear H0
    obtain ⟨k, hk, rfl, hN⟩ := hrel
    by_cases hlt : k < n
    · obtain ⟨gs, sv, hgl, hsome, hbd, hbg, hbad, hbel⟩ := hN
      have k2 := hbd.cell 2
      have f2 := hbd.frozen 2
      have l2 := hbd.lt
      have kg := hbg.cell 1
      have lg := hbg.lt
      simp only [newCells, List.getElem?_toArray, List.getElem?_cons_succ, List.getElem?_cons_zero] at k2 kg
      obtain ⟨X, hX⟩ : ∃ X, (wr.alloc (.cells #[.int .u8 255] 5)).drew = X := ⟨_, rfl⟩
      have hxc : X.cell? ⟨wr.heap.size, 0, none⟩ = some (.int .u8 255) := by subst hX; exact (Blk.new wr _ _).cell 0
      have hxb : Below wr.heap.size wr X := by subst hX; exact ((Below.refl _ wr).alloc (Nat.le_refl _) _).drew
      have kx : X.cell? ⟨w.heap.size, 1, none⟩ = some (.int .i64 z) := (hxb.cell (p := ⟨w.heap.size, 1, none⟩) lg).trans kg
      have HR := Lib.hid (repeat_calls wr.heap.size 0 1 z X hxc (by omega) (by omega))
      rw [← hX] at HR kx hxb
      clear hX
      have hdg : d ≠ w.heap.size := Blk.ne_ hbd hbg (by decide)
      obtain ⟨i0, hi0, hz0, hz1, hz2⟩ := info_parts info_sec
      have HXB := Lib.hid hxb
      have HBD := Lib.hid hbd
      have HBG := Lib.hid hbg
      have HBAD := Lib.hid hbad
      have HBEL := Lib.hid hbel
      have HSOME := Lib.hid hsome
      have HGL := Lib.hid hgl
      have HDG := Lib.hid hdg
      clear hxb hbd hbg hbad hbel hsome hgl hdg hxc
      go_wp2_with fail
      go_region_law (first
        | (go_simp; go_at_call 18; refine (HR.out).mono ?_; rintro e W2 ⟨g, cap, rfl, ho2, hb2⟩; have HO2 := Lib.hid ho2; have HB3 := Lib.hid (HXB.out.trans (hb2.mono HXB.out.size)); have HBD2 := Lib.hid (HBD.out.of_eq (HB3.out.block d l2)); have k22 : W2.cell? ⟨d, 2, none⟩ = some sv := HBD2.out.cell 2; have l22 := HBD2.out.lt; have HBG2 := Lib.hid (HBG.out.of_eq (HB3.out.block w.heap.size lg)); have kg2 : W2.cell? ⟨w.heap.size, 1, none⟩ = some (.int .i64 z) := HBG2.out.cell 1; have lg2 := HBG2.out.lt; clear ho2 hb2; try dsimp only)
        | (refine step_append_lies _ rfl (.tmp 20) (.tmp 26) _ rfl w.heap.size 67 i0 _ 2 32 Tryz.underlying60 hi0 hz0 hz1 hz2 rfl (by omega) sv k (gs.flatMap (pair z)) (by simp [Act.eval, Act.put]) (new_own HGL.out HSOME.out HB3.out) ⟨W2.heap.size, 0, none⟩ 1 1 (pair z (g, cap)) (by simp [Act.eval, Act.put]) rfl (World.news_of_block (heap_alloc_new W2 _)) (pair_one z (g, cap)) (by omega) (by unfold maxLen; omega) (by omega) (by have := HBEL.out.size; have := HB3.out.size; simp; omega) (W2.heap.size + 1) (by simp) ?_; intro g4 cap4 w4 hown4 hgrow4 hat4 hlt4; have HOWN4 := Lib.hid hown4; have HG4 := Lib.hid hgrow4; have HAT4 := Lib.hid hat4; have kg4 : w4.cell? ⟨w.heap.size, 1, none⟩ = some (.int .i64 z) := ((HG4.out.cell_far ⟨w.heap.size, 1, none⟩ (by simp; omega) (own_ne HSOME.out HBG.out)).trans (World.cell?_alloc_lt _ _ ⟨w.heap.size, 1, none⟩ lg2)).trans kg2; have k42 : w4.cell? ⟨d, 2, none⟩ = some sv := ((HG4.out.cell_far ⟨d, 2, none⟩ (by simp; omega) (own_ne HSOME.out HBD.out)).trans (World.cell?_alloc_lt _ _ ⟨d, 2, none⟩ l22)).trans k22; have f42 : w4.frozen? ⟨d, 2, none⟩ = false := (HG4.out.frozen_far ⟨d, 2, none⟩ (by simp; omega) (own_ne HSOME.out HBD.out)).trans ((HBD2.out.alloc _).frozen 2); clear hown4 hgrow4 hat4))
      all_goals
        have hN2 := newAt_step hlo HGL.out HSOME.out HBD.out HBG.out HBAD.out HBEL.out trivial HO2.out (by simp) HB3.out HOWN4.out HG4.out HAT4.out
        have HN2 := Lib.hid hN2
        clear hN2
        go_wp2
        go_roundw
        case rel => first | exact ⟨k + 1, by omega, by go_num, HN2.out⟩ | exact ⟨k + 1, by omega, by go_num, newAt_drew HN2.out⟩ | exact ⟨_, _, _, _, _, _, _, _, _, _, _, _, _, _, _, _, _, ⟨k + 1, by omega, by go_num, HN2.out⟩, rfl⟩
        case measure => simp [intOf]; omega
    · obtain rfl : k = n := by omega
      have HD := Lib.hid (newAt_dev hN hlo hlm (by omega) (by omega) (by omega) (by omega))
      clear hN
      go_wp2
      go_ret2
      exact ⟨d, rfl, HD.out.1, HD.out.2⟩
end Go.Proofs.YthbafcihmcjchaaGreatDoor.NorQ
