/- A device's state as plain data, what each operation makes of it; the words 'DevP' (its parts named) and 'Dev': a device in memory, in the blocks from lo on below hi, has that state. -/
import Derived.Test.YthbafcihmcjchaaGreatDoorNorE
import Derived.Maps.OwnSet
namespace Go.Proofs.YthbafcihmcjchaaGreatDoor.NorS
set_option linter.unusedVariables false
set_option linter.unusedSimpArgs false
open Go.RowKit Go.Maps
open Go.Proofs.YthbafcihmcjchaaGreatDoor.Byte Go.Proofs.YthbafcihmcjchaaGreatDoor.NorD Go.Proofs.YthbafcihmcjchaaGreatDoor.NorM

structure St where
  data : List (List Int)
  wear : List Int
  bad : List Bool
  on : Bool
  cut : Option (Int × Int × Int)
  acts : Int
  offs : Int
def St.row (s : St) (i : Nat) : List Int := s.data.getD i []
/-- An act on sector i. -/
def St.act (s : St) (i : Nat) (down : Bool) (off : Nat) (b : List Int) : Int × St :=
  match s.cut with
  | none => (0, { s with data := s.data.set i (seg down none off b (s.row i)), acts := s.acts + 1 })
  | some (l, wh, m) =>
    if l = 0 then (7, { s with data := s.data.set i (seg down (some (wh, m)) off b (s.row i)), on := false, cut := none, acts := s.acts + 1, offs := s.offs + 1 })
    else (0, { s with data := s.data.set i (seg down none off b (s.row i)), cut := some (l - 1, wh, m), acts := s.acts + 1 })
def inside (n z : Nat) (se off m : Int) : Bool := decide (0 ≤ m ∧ se < n ∧ off ≤ z ∧ m ≤ z - off)
def St.program (s : St) (n z : Nat) (se off : Nat) (b : List Int) : Int × St :=
  if s.on = false then (7, s) else if b.length = 0 ∨ inside n z se off b.length = false then (1, s) else if s.bad.getD se false = true then (8, s) else s.act se true off b
def St.worn (s : St) (i : Nat) : St := { s with wear := s.wear.set i (s.wear.getD i 0 + 1) }
def St.erase (s : St) (n z : Nat) (se : Int) : Int × St :=
  if s.on = false then (7, s) else if se < 0 ∨ (n : Int) ≤ se then (1, s) else if s.bad.getD se.toNat false = true then (8, s) else (s.worn se.toNat).act se.toNat false 0 (List.replicate z 0)
def St.spoil (s : St) (n : Nat) (se : Int) : St := if 0 ≤ se ∧ se < (n : Int) then { s with bad := s.bad.set se.toNat true } else s
def St.setCut (s : St) (a b m : Int) : St := { s with cut := some (max a 0, max b 0, m) }
def St.turn (s : St) : St := if s.on = true then { s with on := false, cut := none, offs := s.offs + 1 } else s
def St.up (s : St) : St := { s with on := true }
def St.new (n z : Nat) : St := { data := List.replicate n (List.replicate z 255), wear := List.replicate n 0, bad := List.replicate n false, on := true, cut := none, acts := 0, offs := 0 }

structure Fits (n z K : Nat) (s : St) : Prop where
  dl : s.data.length = n
  row : ∀ i, i < n → (s.row i).length = z ∧ ∀ x ∈ s.row i, 0 ≤ x ∧ x ≤ 255
  wl : s.wear.length = n
  wb : ∀ i, 0 ≤ s.wear.getD i 0 ∧ s.wear.getD i 0 ≤ K
  bl : s.bad.length = n
  ab : 0 ≤ s.acts ∧ s.acts ≤ K
  ob : 0 ≤ s.offs ∧ s.offs ≤ K
  cb : ∀ l wh m, s.cut = some (l, wh, m) → 0 ≤ l ∧ l ≤ 9223372036854775807 ∧ 0 ≤ wh ∧ wh ≤ 9223372036854775807 ∧ 0 ≤ m ∧ m ≤ 255
section
variable {n z K : Nat} {s : St}
theorem Fits.more (h : Fits n z K s) {K' : Nat} (hK : K ≤ K') : Fits n z K' s :=
  ⟨h.dl, h.row, h.wl, fun i => ⟨(h.wb i).1, by have := (h.wb i).2; omega⟩, h.bl, ⟨h.ab.1, by have := h.ab.2; omega⟩, ⟨h.ob.1, by have := h.ob.2; omega⟩, h.cb⟩
theorem row_set (s : St) (i j : Nat) (r : List Int) (hi : i < s.data.length) : (s.data.set i r).getD j [] = if j = i then r else s.row j := by
  unfold St.row
  rw [List.getD_eq_getElem?_getD, List.getD_eq_getElem?_getD, List.getElem?_set]
  by_cases h : i = j
  · subst h
    simp [hi]
  · rw [if_neg h, if_neg (fun e => h e.symm)]
theorem getD_set (l : List Int) (i j : Nat) (v : Int) (hi : i < l.length) : (l.set i v).getD j 0 = if j = i then v else l.getD j 0 := by
  rw [List.getD_eq_getElem?_getD, List.getD_eq_getElem?_getD, List.getElem?_set]
  by_cases h : i = j
  · subst h
    simp [hi]
  · rw [if_neg h, if_neg (fun e => h e.symm)]
theorem getD_setB (l : List Bool) (i j : Nat) (v : Bool) (hi : i < l.length) : (l.set i v).getD j false = if j = i then v else l.getD j false := by
  rw [List.getD_eq_getElem?_getD, List.getD_eq_getElem?_getD, List.getElem?_set]
  by_cases h : i = j
  · subst h
    simp [hi]
  · rw [if_neg h, if_neg (fun e => h e.symm)]
/-- Whatever is done to a row. -/
theorem Fits.done (h : Fits n z K s) (i : Nat) (hi : i < n) (down : Bool) (c : Option (Int × Int)) (off : Nat) (b : List Int) (on : Bool) (cut : Option (Int × Int × Int)) (offs : Int)
    (hcut : ∀ l wh m, cut = some (l, wh, m) → 0 ≤ l ∧ l ≤ 9223372036854775807 ∧ 0 ≤ wh ∧ wh ≤ 9223372036854775807 ∧ 0 ≤ m ∧ m ≤ 255) (ho : 0 ≤ offs ∧ offs ≤ K + 1) :
    Fits n z (K + 1) { s with data := s.data.set i (seg down c off b (s.row i)), on := on, cut := cut, acts := s.acts + 1, offs := offs } := by
  refine ⟨by simpa using h.dl, fun j hj => ?_, h.wl, fun j => ⟨(h.wb j).1, by have := (h.wb j).2; show s.wear.getD j 0 ≤ _; omega⟩, h.bl, ⟨by have := h.ab; show 0 ≤ s.acts + 1; omega, by have := h.ab; show s.acts + 1 ≤ _; omega⟩, ⟨ho.1, by have := ho.2; show offs ≤ _; omega⟩, hcut⟩
  show ((s.data.set i _).getD j []).length = z ∧ ∀ x ∈ (s.data.set i _).getD j [], 0 ≤ x ∧ x ≤ 255
  rw [row_set _ _ _ _ (by rw [h.dl]; exact hi)]
  split
  · exact ⟨by rw [seg_len]; exact (h.row i hi).1, seg_bytes (h.row i hi).2⟩
  · exact h.row j hj
theorem Fits.act (h : Fits n z K s) (i : Nat) (hi : i < n) (down : Bool) (off : Nat) (b : List Int) : Fits n z (K + 1) (s.act i down off b).2 := by
  have ho := h.ob
  unfold St.act
  cases hc : s.cut with
  | none => exact h.done i hi down none off b s.on none s.offs (fun _ _ _ e => by cases e) ⟨ho.1, by omega⟩
  | some q =>
    obtain ⟨l, wh, m⟩ := q
    have hb := h.cb l wh m hc
    dsimp only
    split
    · exact h.done i hi down (some (wh, m)) off b false none (s.offs + 1) (fun _ _ _ e => by cases e) ⟨by omega, by omega⟩
    · exact h.done i hi down none off b s.on (some (l - 1, wh, m)) s.offs (fun _ _ _ e => by injection e with e; injection e with e1 e2; injection e2 with e2 e3; subst e1; subst e2; subst e3; omega) ⟨ho.1, by omega⟩
theorem Fits.worn (h : Fits n z K s) (i : Nat) (hi : i < n) : Fits n z (K + 1) (s.worn i) := by
  have := h.more (K' := K + 1) (by omega)
  refine ⟨this.dl, this.row, by unfold St.worn; simpa using h.wl, fun j => ?_, this.bl, this.ab, this.ob, this.cb⟩
  show 0 ≤ (s.wear.set i _).getD j 0 ∧ _
  have h1 := h.wb i
  have h2 := h.wb j
  unfold St.worn
  dsimp only
  rw [getD_set _ _ _ _ (by rw [h.wl]; exact hi)]
  split <;> omega
theorem Fits.spoil (h : Fits n z K s) (se : Int) : Fits n z K (s.spoil n se) := by
  unfold St.spoil
  split
  · exact ⟨h.dl, h.row, h.wl, h.wb, by simpa using h.bl, h.ab, h.ob, h.cb⟩
  · exact h
theorem Fits.setCut (h : Fits n z K s) (a b m : Int) (ha : a ≤ 9223372036854775807) (hb : b ≤ 9223372036854775807) (h0 : 0 ≤ m) (h1 : m ≤ 255) : Fits n z K (s.setCut a b m) :=
  ⟨h.dl, h.row, h.wl, h.wb, h.bl, h.ab, h.ob, fun _ _ _ e => by unfold St.setCut at e; injection e with e; injection e with e1 e2; injection e2 with e2 e3; subst e1; subst e2; subst e3; omega⟩
theorem Fits.turn (h : Fits n z K s) : Fits n z (K + 1) s.turn := by
  unfold St.turn
  have ho := h.ob
  split
  · have := h.more (K' := K + 1) (by omega)
    exact ⟨this.dl, this.row, this.wl, this.wb, this.bl, this.ab, ⟨by show 0 ≤ s.offs + 1; omega, by show s.offs + 1 ≤ _; omega⟩, fun _ _ _ e => by cases e⟩
  · exact h.more (by omega)
theorem Fits.up (h : Fits n z K s) : Fits n z K s.up := ⟨h.dl, h.row, h.wl, h.wb, h.bl, h.ab, h.ob, h.cb⟩
theorem replicate_getD {α : Type} (n : Nat) (v d : α) (i : Nat) : (List.replicate n v).getD i d = if i < n then v else d := by
  rw [List.getD_eq_getElem?_getD, List.getElem?_replicate]
  split <;> rfl
theorem Fits.new (n z K : Nat) : Fits n z K (St.new n z) := by
  refine ⟨by simp [St.new], fun i hi => ?_, by simp [St.new], fun i => ?_, by simp [St.new], by simp [St.new], by simp [St.new], fun _ _ _ e => by cases e⟩
  · unfold St.row St.new
    dsimp only
    rw [replicate_getD, if_pos hi]
    exact ⟨by simp, fun x hx => by rw [List.eq_of_mem_replicate hx]; omega⟩
  · unfold St.new
    dsimp only
    rw [replicate_getD]
    split <;> omega
end

/-- The sectors' blocks: where each one's bytes stand, and its wear. -/
def Secs (w : World) (sb n z : Nat) (G C : Nat → Nat) (wear : List Int) : Prop :=
  ∃ cs : Array Value, Blk w sb 67 cs ∧ ∀ i, i < n → cs[i * 2]? = some (.slice (some ⟨G i, 0, none⟩) z (C i)) ∧ cs[i * 2 + 1]? = some (.int .i64 (wear.getD i 0))
section
variable {w w' : World} {sb n z : Nat} {G C : Nat → Nat} {wear : List Int}
theorem Secs.c0 (h : Secs w sb n z G C wear) {i : Nat} (hi : i < n) : w.cell? ⟨sb, i * 2, none⟩ = some (.slice (some ⟨G i, 0, none⟩) z (C i)) := by
  obtain ⟨cs, hb, hc⟩ := h
  rw [hb.cell]
  exact (hc i hi).1
theorem Secs.c1 (h : Secs w sb n z G C wear) {i : Nat} (hi : i < n) : w.cell? ⟨sb, i * 2 + 1, none⟩ = some (.int .i64 (wear.getD i 0)) := by
  obtain ⟨cs, hb, hc⟩ := h
  rw [hb.cell]
  exact (hc i hi).2
theorem Secs.fr (h : Secs w sb n z G C wear) (i : Nat) : w.frozen? ⟨sb, i, none⟩ = false := by
  obtain ⟨cs, hb, hc⟩ := h
  exact hb.frozen i
theorem Secs.lt (h : Secs w sb n z G C wear) : sb < w.heap.size := by
  obtain ⟨cs, hb, hc⟩ := h
  exact hb.lt
theorem Secs.of_eq (h : Secs w sb n z G C wear) (e : w'.heap[sb]? = w.heap[sb]?) : Secs w' sb n z G C wear := by
  obtain ⟨cs, hb, hc⟩ := h
  exact ⟨cs, hb.of_eq e, hc⟩
theorem Secs.set_ (h : Secs w sb n z G C wear) (i : Nat) (hi : i < n) (hw : wear.length = n) (v : Int) : Secs (w.setCell ⟨sb, i * 2 + 1, none⟩ (.int .i64 v)) sb n z G C (wear.set i v) := by
  obtain ⟨cs, hb, hc⟩ := h
  have hlt : i * 2 + 1 < cs.size := (Array.getElem?_eq_some_iff.1 (hc i hi).2).1
  refine ⟨_, hb.set_ _ _, fun j hj => ?_⟩
  rw [getD_set _ _ _ _ (by omega)]
  constructor
  · rw [Array.getElem?_setIfInBounds_ne (by omega)]
    exact (hc j hj).1
  · by_cases e : j = i
    · subst e
      rw [if_pos rfl, Array.getElem?_setIfInBounds_self_of_lt hlt]
    · rw [if_neg e, Array.getElem?_setIfInBounds_ne (by omega)]
      exact (hc j hj).2
end

/-- Which sectors are bad, in a map. -/
def BadAt (w : World) (mb n K : Nat) (bad : List Bool) : Prop :=
  ∃ (D : DataW Unit), w.ownsMap Tryz.prog 3 unitElem mb K D ∧ IsMap D ∧ ∀ i : Nat, i < n → Maps.has D (.int .i64 i) = bad.getD i false
theorem BadAt.lt {w : World} {mb n K : Nat} {bad : List Bool} (h : BadAt w mb n K bad) : mb < w.heap.size := by
  obtain ⟨D, h1, _⟩ := h
  exact h1.lt
theorem BadAt.of_eq {w w' : World} {mb n K : Nat} {bad : List Bool} (h : BadAt w mb n K bad) (e : w'.heap[mb]? = w.heap[mb]?) : BadAt w' mb n K bad := by
  obtain ⟨D, ⟨es, cl, h1, h2⟩, h3⟩ := h
  exact ⟨D, ⟨es, cl, e.trans h1, h2⟩, h3⟩
theorem BadAt.more {w : World} {mb n K K' : Nat} {bad : List Bool} (h : BadAt w mb n K bad) (hK : K ≤ K') : BadAt w mb n K' bad := by
  obtain ⟨D, h1, h3⟩ := h
  exact ⟨D, h1.mono hK, h3⟩
theorem blk_ne_map {w : World} {g mb n K : Nat} {t : TypeId} {cs : Array Value} {bad : List Bool} (h : Blk w g t cs) (hm : BadAt w mb n K bad) : g ≠ mb := by
  rintro rfl
  obtain ⟨D, ⟨es, cl, h1, h2⟩, h3⟩ := hm
  unfold Blk at h
  rw [h] at h1
  cases h1

/-- A device, its parts named. -/
structure DevP (w : World) (lo hi d n z K : Nat) (s : St) (sb scap mb : Nat) (there : Bool) (left whole mask : Int) (G C : Nat → Nat) : Prop where
  core : Core w d n z sb scap mb s.on there left whole mask s.acts s.offs
  cut : (s.cut = none ∧ there = false) ∨ (s.cut = some (left, whole, mask) ∧ there = true)
  secs : Secs w sb n z G (fun _ => z) s.wear
  map : BadAt w mb n K s.bad
  rows : ∀ i, i < n → Ob w lo 5 (G i) z (C i) (s.row i)
  apart : ∀ i j, i < n → j < n → i ≠ j → G i ≠ G j
  pd : lo ≤ d ∧ d < hi
  ps : lo ≤ sb ∧ sb < hi
  pm : lo ≤ mb ∧ mb < hi
  pg : ∀ i, i < n → G i < hi
  hs : hi ≤ w.heap.size
  fits : Fits n z K s
  geo : 0 < n ∧ n ≤ 64 ∧ 0 < z ∧ z ≤ 4096 ∧ n ≤ scap ∧ scap ≤ 9223372036854775807
  big : K ≤ 1000000
/-- A device of that state. -/
def Dev (w : World) (lo hi d n z K : Nat) (s : St) : Prop := ∃ sb scap mb there left whole mask G C, DevP w lo hi d n z K s sb scap mb there left whole mask G C
section
variable {w w' : World} {lo hi d n z K : Nat} {s : St} {sb scap mb : Nat} {there : Bool} {left whole mask : Int} {G C : Nat → Nat}
/-- It stands as long as its blocks do. -/
theorem DevP.keep (h : DevP w lo hi d n z K s sb scap mb there left whole mask G C) (hb : ∀ k, lo ≤ k → k < hi → w'.heap[k]? = w.heap[k]?) (hs : w.heap.size ≤ w'.heap.size) : DevP w' lo hi d n z K s sb scap mb there left whole mask G C :=
  ⟨Blk.of_eq h.core (hb d h.pd.1 h.pd.2), h.cut, h.secs.of_eq (hb sb h.ps.1 h.ps.2), h.map.of_eq (hb mb h.pm.1 h.pm.2), fun i hi' => by
    have := h.rows i hi'
    refine ⟨this.1, this.2.1, this.2.2.1, ?_⟩
    rcases this.2.2.2 with h' | ⟨g', cap', cur, h1, h2, h3, r⟩
    · exact .inl h'
    · refine .inr ⟨g', cap', cur, h1, h2, ?_, r⟩
      injection h1 with h1 _ _
      injection h1 with h1
      injection h1 with h1
      subst h1
      exact (hb (G i) this.place.1 (h.pg i hi')).trans h3, h.apart, h.pd, h.ps, h.pm, h.pg, Nat.le_trans h.hs hs, h.fits, h.geo, h.big⟩
theorem DevP.alloc (h : DevP w lo hi d n z K s sb scap mb there left whole mask G C) (o : Obj) : DevP (w.alloc o) lo hi d n z K s sb scap mb there left whole mask G C :=
  h.keep (fun k _ hk => Below.heap_alloc _ _ _ (Nat.lt_of_lt_of_le hk h.hs)) (by simp)
theorem DevP.dev (h : DevP w lo hi d n z K s sb scap mb there left whole mask G C) : Dev w lo hi d n z K s := ⟨_, _, _, _, _, _, _, _, _, h⟩
theorem DevP.dg (h : DevP w lo hi d n z K s sb scap mb there left whole mask G C) {i : Nat} (hi' : i < n) : d ≠ G i := by
  obtain ⟨cur, hh, _⟩ := (h.rows i hi').row
  exact Blk.ne_ h.core hh (by decide)
theorem DevP.sg (h : DevP w lo hi d n z K s sb scap mb there left whole mask G C) {i : Nat} (hi' : i < n) : sb ≠ G i := by
  obtain ⟨cur, hh, _⟩ := (h.rows i hi').row
  obtain ⟨cs, hb, _⟩ := h.secs
  exact Blk.ne_ hb hh (by decide)
theorem DevP.mg (h : DevP w lo hi d n z K s sb scap mb there left whole mask G C) {i : Nat} (hi' : i < n) : mb ≠ G i := by
  obtain ⟨cur, hh, _⟩ := (h.rows i hi').row
  exact (blk_ne_map (g := G i) hh h.map).symm
theorem DevP.ds (h : DevP w lo hi d n z K s sb scap mb there left whole mask G C) : d ≠ sb := by
  obtain ⟨cs, hb, _⟩ := h.secs
  exact Blk.ne_ h.core hb (by decide)
theorem DevP.dm (h : DevP w lo hi d n z K s sb scap mb there left whole mask G C) : d ≠ mb := blk_ne_map h.core h.map
theorem DevP.sm (h : DevP w lo hi d n z K s sb scap mb there left whole mask G C) : sb ≠ mb := by
  obtain ⟨cs, hb, _⟩ := h.secs
  exact blk_ne_map hb h.map
/-- The struct alone was written. -/
theorem DevP.cored (h : DevP w lo hi d n z K s sb scap mb there left whole mask G C) {K' : Nat} {s' : St} {there' : Bool} {left' whole' mask' : Int} (hC : Core w' d n z sb scap mb s'.on there' left' whole' mask' s'.acts s'.offs)
    (hg : Chg (fun q => q = d) w w') (hcut : (s'.cut = none ∧ there' = false) ∨ (s'.cut = some (left', whole', mask') ∧ there' = true)) (e1 : s'.data = s.data) (e2 : s'.wear = s.wear) (e3 : s'.bad = s.bad) (hf : Fits n z K' s') (hK : K ≤ K') (hb : K' ≤ 1000000) :
    DevP w' lo hi d n z K' s' sb scap mb there' left' whole' mask' G C :=
  ⟨hC, hcut, by rw [e2]; exact h.secs.of_eq (hg.block sb h.secs.lt (Ne.symm h.ds)), by rw [e3]; exact (h.map.of_eq (hg.block mb h.map.lt (Ne.symm h.dm))).more hK,
    fun i hi' => by unfold St.row; rw [e1]; exact (h.rows i hi').chg hg (Ne.symm (h.dg hi')), h.apart, h.pd, h.ps, h.pm, h.pg, Nat.le_trans h.hs hg.size, hf, h.geo, hb⟩
/-- The struct and one row were written. -/
theorem DevP.acted (h : DevP w lo hi d n z K s sb scap mb there left whole mask G C) {K' : Nat} {s' : St} {there' : Bool} {left' whole' mask' : Int} {i : Nat} (hi' : i < n) (new : List Int) (hC : Core w' d n z sb scap mb s'.on there' left' whole' mask' s'.acts s'.offs)
    (ho : Ob w' lo 5 (G i) z (C i) new) (hg : Chg (fun q => q = d ∨ q = G i) w w') (hcut : (s'.cut = none ∧ there' = false) ∨ (s'.cut = some (left', whole', mask') ∧ there' = true))
    (e1 : s'.data = s.data.set i new) (e2 : s'.wear = s.wear) (e3 : s'.bad = s.bad) (hf : Fits n z K' s') (hK : K ≤ K') (hb : K' ≤ 1000000) :
    DevP w' lo hi d n z K' s' sb scap mb there' left' whole' mask' G C :=
  ⟨hC, hcut, by rw [e2]; exact h.secs.of_eq (hg.block sb h.secs.lt (fun e => e.elim (Ne.symm h.ds) (h.sg hi'))), by rw [e3]; exact (h.map.of_eq (hg.block mb h.map.lt (fun e => e.elim (Ne.symm h.dm) (h.mg hi')))).more hK,
    fun j hj => by
      unfold St.row
      rw [e1, row_set _ _ _ _ (by rw [h.fits.dl]; exact hi')]
      split
      · rename_i e
        subst e
        exact ho
      · rename_i e
        exact (h.rows j hj).chg hg (fun e' => e'.elim (Ne.symm (h.dg hj)) (h.apart j i hj hi' e)), h.apart, h.pd, h.ps, h.pm, h.pg, Nat.le_trans h.hs hg.size, hf, h.geo, hb⟩
/-- A sector's wear was written. -/
theorem DevP.wornAt (h : DevP w lo hi d n z K s sb scap mb there left whole mask G C) (hb : K + 1 ≤ 1000000) {i : Nat} (hi' : i < n) : DevP (w.setCell ⟨sb, i * 2 + 1, none⟩ (.int .i64 (s.wear.getD i 0 + 1))) lo hi d n z (K + 1) (s.worn i) sb scap mb there left whole mask G C := by
  have hg : Chg (fun q => q = sb) w (w.setCell ⟨sb, i * 2 + 1, none⟩ (.int .i64 (s.wear.getD i 0 + 1))) := (Chg.refl _ w).own _ _
  exact ⟨Blk.chg h.core hg h.ds, h.cut, h.secs.set_ i hi' h.fits.wl _, (h.map.of_eq (hg.block mb h.map.lt (Ne.symm h.sm))).more (by omega),
    fun j hj => (h.rows j hj).chg hg (Ne.symm (h.sg hj)), h.apart, h.pd, h.ps, h.pm, h.pg, Nat.le_trans h.hs hg.size, h.fits.worn i hi', h.geo, hb⟩
end
theorem has_put (D : DataW Unit) (hD : IsMap D) (k i : Nat) : Maps.has (D.put (.int .i64 k) (.agg [])) (.int .i64 i) = (decide (i = k) || Maps.has D (.int .i64 i)) := by
  by_cases h : i = k
  · subst h
    rw [has_put_same hD (by simp [WideAt.IsKeyLit])]
    simp
  · rw [has_put_other (fun e => h (by injection e with _ e; omega))]
    simp [h]
end Go.Proofs.YthbafcihmcjchaaGreatDoor.NorS
