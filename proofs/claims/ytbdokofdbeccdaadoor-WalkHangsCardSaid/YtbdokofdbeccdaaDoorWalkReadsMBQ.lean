/- Merged: WalkF KeysN NamesR NamesS NamesL WalkE WalkH. -/
import Derived.Test.YtbdokofdbeccdaaDoorWalkM
import Derived.Test.YtbdokofdbeccdaaDoorKeysS
import Derived.Deep.QuietTactic
import Derived.BigQuiet
import Derived.Test.YtbdokofdbeccdaaDoorNamesM
import Derived.Test.YtbdokofdbeccdaaDoorTx
import Derived.Laws.Concat
import Derived.WalkLawsBesides
import Derived.WalkSpells
import Derived.Lib.MinMax
import Derived.Deep.MidRow
import Derived.Test.YtbdokofdbeccdaaDoorWalkReadsMBP
/- The plain mathematics of layer 17's Find. Names no program. -/
namespace Go.Proofs.YtbdokofdbeccdaaDoor.WalkF
set_option linter.unusedVariables false
set_option linter.unusedSimpArgs false
open Go.Proofs.YtbdokofdbeccdaaDoor.Byte Go.Proofs.YtbdokofdbeccdaaDoor.PackM Go.Proofs.YtbdokofdbeccdaaDoor.KeysM Go.Proofs.YtbdokofdbeccdaaDoor.TreeM Go.Proofs.YtbdokofdbeccdaaDoor.ViewM Go.Proofs.YtbdokofdbeccdaaDoor.NodeM Go.Proofs.YtbdokofdbeccdaaDoor.NamesM Go.Proofs.YtbdokofdbeccdaaDoor.WalkM

/-- An inode's four numbers. -/
structure Ino where
  k : Int
  l : Int
  s : Int
  p : Int
def ino0 : Ino := ⟨0, 0, 0, 0⟩
/-- What a path leads to. -/
structure Spot where
  dir : Int
  name : ByteArray
  ino : Int
  node : Ino
def spot0 : Spot := ⟨0, ⟨#[]⟩, 0, ino0⟩
def loadM (l : List Pr) (ino : Int) : Ino × Bool := match getL (kI ino) l with
  | none => if ino = 1 then (⟨2, 2, 0, 1⟩, true) else (ino0, false)
  | some q => if gok q.value then (⟨gk q.value, gl q.value, gs q.value, gp q.value⟩, true) else (ino0, false)
def stepM (L : List Pr) (at_ : Spot) (name : ByteArray) : Spot :=
  if (childM L at_.ino name).2 && (loadM L (childM L at_.ino name).1).2 then ⟨at_.ino, name, (childM L at_.ino name).1, (loadM L (childM L at_.ino name).1).1⟩ else ⟨at_.ino, name, 0, ino0⟩
def findL (L : List Pr) (at_ : Spot) : List ByteArray → Spot × Int
  | [] => (at_, 0)
  | name :: r => if at_.ino = 0 then (spot0, 10) else if at_.node.k ≠ 2 then (spot0, 12) else findL L (stepM L at_ name) r
/-- The spot; the error's number. -/
def findM (L : List Pr) (path : ByteArray) : Spot × Int := if (spl path).2 ≠ 0 then (spot0, (spl path).2) else findL L ⟨0, ⟨#[]⟩, 1, (loadM L 1).1⟩ (spl path).1
/-- Is a key noted as read? -/
def hasK (k : ByteArray) (rd : List Pr) : Prop := ∃ p ∈ rd, p.key = k
theorem hasK_put (k : ByteArray) (v : ByteArray) (g : Bool) (rd : List Pr) : hasK k (putP ⟨k, v, g⟩ rd) := ⟨_, putP_new _ _, rfl⟩
theorem hasK_keep {k q : ByteArray} {rd : List Pr} (h : hasK k rd) (v : ByteArray) (g : Bool) : hasK k (putP ⟨q, v, g⟩ rd) := by
  by_cases e : k = q
  · subst e
    exact hasK_put _ _ _ _
  · obtain ⟨p, hp, rfl⟩ := h
    exact ⟨p, putP_mem hp e, rfl⟩
/-- What finding a path reads. -/
structure FindR (s : Vs) (path : ByteArray) (s' : Vs) : Prop where
  base : s'.base = s.base
  wr : s'.wr = s.wr
  rg : s'.rg = s.rg
  none_ : (spl path).2 ≠ 0 → s'.rd = s.rd
  keep : ∀ k, hasK k s.rd → hasK k s'.rd
  root : (spl path).2 = 0 → hasK (kI 1) s'.rd
  ent : (spl path).2 = 0 → (findM s.shown path).2 = 0 → (findM s.shown path).1.name ≠ ⟨#[]⟩ → hasK (kE (findM s.shown path).1.dir (findM s.shown path).1.name) s'.rd
  ino : (spl path).2 = 0 → (findM s.shown path).2 = 0 → (findM s.shown path).1.ino ≠ 0 → hasK (kI (findM s.shown path).1.ino) s'.rd
  dir : (spl path).2 = 0 → (findM s.shown path).2 = 0 → (findM s.shown path).1.dir ≠ 0 → hasK (kI (findM s.shown path).1.dir) s'.rd
  len : s'.rd.length ≤ s.rd.length + 40
  small : ∀ p ∈ s'.rd, p ∈ s.rd ∨ p.key.size ≤ 100000
theorem ex_find : findM [] ⟨#[47, 97]⟩ = (⟨1, ⟨#[97]⟩, 0, ino0⟩, 0) := by
  have h : spl ⟨#[47, 97]⟩ = ([⟨#[97]⟩], 0) := by decide +kernel
  unfold findM
  rw [h]
  rfl
theorem spl_err (s : ByteArray) : (spl s).2 = 0 ∨ (spl s).2 = 15 ∨ (spl s).2 = 17 := by
  unfold spl
  split
  · exact .inr (.inr rfl)
  · split
    · exact .inr (.inl rfl)
    · split
      · exact .inl rfl
      · split
        · exact .inl rfl
        · exact .inr (.inr rfl)
theorem spl_names (s : ByteArray) : ∀ x ∈ (spl s).1, x.size ≤ 32 := by
  unfold spl
  split
  · exact fun x hx => by cases hx
  · split
    · exact fun x hx => by cases hx
    · split
      · exact fun x hx => by cases hx
      · split
        · rename_i h
          rw [Bool.and_eq_true, decide_eq_true_eq] at h
          exact fun x hx => (name_pos (List.all_eq_true.1 h.1 x hx)).2
        · exact fun x hx => by cases hx
structure SpotB (x : Spot) : Prop where
  d0 : 0 ≤ x.dir
  d1 : x.dir ≤ 4294967295
  i0 : 0 ≤ x.ino
  i1 : x.ino ≤ 4294967295
  nm : x.name.size ≤ 32
theorem spotB0 : SpotB spot0 := ⟨by decide, by decide, by decide, by decide, by decide⟩
theorem child_bd (L : List Pr) (dir : Int) (name : ByteArray) : 0 ≤ (childM L dir name).1 ∧ (childM L dir name).1 ≤ 4294967295 := by
  unfold childM
  split
  · exact ⟨Int.le_refl 0, by decide⟩
  · rename_i q _
    split
    · have := get_bd (txt q.value) 0 4 (txt_bd q.value)
      have e : (256 : Int) ^ 4 = 4294967296 := by decide
      exact ⟨this.1, by show PackM.getn (txt q.value) 0 4 ≤ _; omega⟩
    · exact ⟨Int.le_refl 0, by decide⟩
theorem step_bd {L : List Pr} {x : Spot} (h : SpotB x) {name : ByteArray} (hn : name.size ≤ 32) : SpotB (stepM L x name) := by
  unfold stepM
  split
  · exact ⟨h.i0, h.i1, (child_bd _ _ _).1, (child_bd _ _ _).2, hn⟩
  · exact ⟨h.i0, h.i1, (show (0 : Int) ≤ 0 by decide), (show (0 : Int) ≤ 4294967295 by decide), hn⟩
theorem findL_bd (L : List Pr) : ∀ (names : List ByteArray) (x : Spot), SpotB x → (∀ y ∈ names, y.size ≤ 32) → SpotB (findL L x names).1 ∧ ((findL L x names).2 = 0 ∨ (findL L x names).2 = 10 ∨ (findL L x names).2 = 12)
  | [], x, h, _ => ⟨h, .inl rfl⟩
  | name :: r, x, h, hn => by
    unfold findL
    split
    · exact ⟨spotB0, .inr (.inl rfl)⟩
    · split
      · exact ⟨spotB0, .inr (.inr rfl)⟩
      · exact findL_bd L r _ (step_bd h (hn name (by simp))) (fun y hy => hn y (by simp [hy]))
theorem find_bd (L : List Pr) (path : ByteArray) : SpotB (findM L path).1 := by
  unfold findM
  split
  · exact spotB0
  · exact (findL_bd L _ _ ⟨(show (0 : Int) ≤ 0 by decide), by show (0 : Int) ≤ 4294967295; decide, by show (0 : Int) ≤ 1; decide, by show (1 : Int) ≤ 4294967295; decide, by show (0 : Nat) ≤ 32; decide⟩ (spl_names path)).1
theorem find_err (L : List Pr) (path : ByteArray) : ((spl path).2 ≠ 0 ∧ ((findM L path).2 = 15 ∨ (findM L path).2 = 17)) ∨ ((spl path).2 = 0 ∧ ((findM L path).2 = 0 ∨ (findM L path).2 = 10 ∨ (findM L path).2 = 12)) := by
  unfold findM
  by_cases h : (spl path).2 = 0
  · right
    rw [if_neg (fun h2 => h2 h)]
    exact ⟨h, (findL_bd L _ _ ⟨(show (0 : Int) ≤ 0 by decide), by show (0 : Int) ≤ 4294967295; decide, by show (0 : Int) ≤ 1; decide, by show (1 : Int) ≤ 4294967295; decide, by show (0 : Nat) ≤ 32; decide⟩ (spl_names path)).2⟩
  · left
    rw [if_pos h]
    refine ⟨h, ?_⟩
    rcases spl_err path with e | e | e
    · exact absurd e h
    · exact .inl e
    · exact .inr e
end Go.Proofs.YtbdokofdbeccdaaDoor.WalkF

/- The contract of the document's Name of layer 9. -/
namespace Go.Proofs.YtbdokofdbeccdaaDoor.KeysN
set_option linter.unusedVariables false
set_option linter.unusedSimpArgs false
open Go.RowKit
open Go.Proofs.YtbdokofdbeccdaaDoor.Byte Go.Proofs.YtbdokofdbeccdaaDoor.KeysM Go.Proofs.YtbdokofdbeccdaaDoor.KeysR Go.Proofs.YtbdokofdbeccdaaDoor.KeysS

theorem toList_d (s : ByteArray) : s.toList = s.data.toList := ByteArray.toList_eq s
theorem is_txt (s : ByteArray) (l : List UInt8) : txt s = l.map (fun b => (b.toNat : Int)) ↔ s.toList = l := by
  have ht : s.toList = s.data.toList := toList_d s
  rw [ht]
  unfold txt
  constructor
  · intro h
    have h2 := congrArg (List.map (fun x : Int => UInt8.ofNat x.toNat)) h
    simpa [List.map_map, Function.comp_def] using h2
  · intro h
    rw [h]
theorem name_bad {s : ByteArray} {k : Nat} (hk : k < s.size) (h : (txt s).getD k 0 = 0 ∨ (txt s).getD k 0 = 47) : nameOk s = false := by
  have hl : k < (txt s).length := by rw [txt_len]; exact hk
  have hm : (txt s).getD k 0 ∈ txt s := by
    rw [List.getD_eq_getElem?_getD, List.getElem?_eq_getElem hl]
    exact List.getElem_mem hl
  have ha : (txt s).all (fun x => decide (x ≠ 0) && decide (x ≠ 47)) = false := by
    cases hall : (txt s).all (fun x => decide (x ≠ 0) && decide (x ≠ 47)) with
    | false => rfl
    | true =>
      have := List.all_eq_true.1 hall _ hm
      rcases h with h | h <;> rw [h] at this <;> simp at this
  unfold nameOk
  rw [ha]
  simp
theorem name_all {s : ByteArray} (h : ∀ j, j < s.size → (txt s).getD j 0 ≠ 0 ∧ (txt s).getD j 0 ≠ 47) : nameOk s = (decide (0 < s.size) && decide (s.size ≤ 32) && !(s.toList == [46]) && !(s.toList == [46, 46])) := by
  have ha : (txt s).all (fun x => decide (x ≠ 0) && decide (x ≠ 47)) = true := by
    rw [List.all_eq_true]
    intro x hx
    obtain ⟨j, hj, rfl⟩ := List.mem_iff_getElem.1 hx
    have := h j (by rw [← txt_len]; exact hj)
    rw [List.getD_eq_getElem?_getD, List.getElem?_eq_getElem hj] at this
    simpa using this
  have h1 : decide (txt s ≠ [46]) = !(s.toList == [46]) := by
    have := is_txt s [46]
    rw [Bool.eq_iff_iff]
    simp only [decide_eq_true_eq, Bool.not_eq_true', beq_eq_false_iff_ne, ne_eq]
    exact not_congr this
  have h2 : decide (txt s ≠ [46, 46]) = !(s.toList == [46, 46]) := by
    have := is_txt s [46, 46]
    rw [Bool.eq_iff_iff]
    simp only [decide_eq_true_eq, Bool.not_eq_true', beq_eq_false_iff_ne, ne_eq]
    exact not_congr this
  unfold nameOk
  rw [ha, h1, h2, Bool.and_true]
end Go.Proofs.YtbdokofdbeccdaaDoor.KeysN

/- The contracts of the document's answer for layer 16. -/
namespace Go.Proofs.YtbdokofdbeccdaaDoor.NamesR
set_option linter.unusedVariables false
set_option linter.unusedSimpArgs false
open Go.RowKit
open Go.Proofs.YtbdokofdbeccdaaDoor.Byte Go.Proofs.YtbdokofdbeccdaaDoor.KeysM Go.Proofs.YtbdokofdbeccdaaDoor.KeysN Go.Proofs.YtbdokofdbeccdaaDoor.NamesM Go.Proofs.YtbdokofdbeccdaaDoor.Lst Go.Proofs.YtbdokofdbeccdaaDoor.Tx
open Go.Proofs.YtbdokofdbeccdaaDoor.KeysS (key_at)
open Go.Proofs.YtbdokofdbeccdaaDoor.Own (keeps)

/-- The names of a path, in a new row, and the error's number. -/
def SplE (s : ByteArray) (w : World) (e : Ending) (w' : World) : Prop := ∃ A m c, e = .returned (.tuple #[.slice A m c, .int .i64 (spl s).2]) ∧ So txE 9 w' w.heap.size (.slice A m c) m (spl s).1 ∧ Below w.heap.size w w'
theorem SplE.of {s : ByteArray} {w w' : World} {A : Option Addr} {m c : Nat} {L : List ByteArray} {x : Int} (h : spl s = (L, x)) (ho : So txE 9 w' w.heap.size (.slice A m c) m L) (hb : Below w.heap.size w w') : SplE s w (.returned (.tuple #[.slice A m c, .int .i64 x])) w' := by
  refine ⟨A, m, c, ?_, ?_, hb⟩ <;> rw [h]
  exact ho
theorem So.none_ {w : World} : So txE 9 w w.heap.size (.slice none 0 0) 0 [] := So.nil_ _ _ _ _
end Go.Proofs.YtbdokofdbeccdaaDoor.NamesR

/- The contracts of the document's Join and Same of layer 16. -/
namespace Go.Proofs.YtbdokofdbeccdaaDoor.NamesS
set_option linter.unusedVariables false
set_option linter.unusedSimpArgs false
open Go.RowKit
open Go.Proofs.YtbdokofdbeccdaaDoor.Byte Go.Proofs.YtbdokofdbeccdaaDoor.KeysM Go.Proofs.YtbdokofdbeccdaaDoor.KeysN Go.Proofs.YtbdokofdbeccdaaDoor.NamesM Go.Proofs.YtbdokofdbeccdaaDoor.Lst Go.Proofs.YtbdokofdbeccdaaDoor.Tx Go.Proofs.YtbdokofdbeccdaaDoor.NamesR
open Go.Proofs.YtbdokofdbeccdaaDoor.Own (keeps)

theorem below_drewN {B : Nat} {a w : World} (h : Below B a w) (n : Nat) : Below B a (w.drewN n) := ⟨h.os, h.tape, h.output, h.size, h.block⟩
/-- The path of names, and the error's number. -/
def JoiE (l : List ByteArray) (w : World) (e : Ending) (w' : World) : Prop := e = .returned (.tuple #[.string (joi l).1, .int .i64 (joi l).2]) ∧ Below w.heap.size w w'
theorem JoiE.of {l : List ByteArray} {w w' : World} {s : ByteArray} {x : Int} (h : joi l = (s, x)) (hb : Below w.heap.size w w') : JoiE l w (.returned (.tuple #[.string s, .int .i64 x])) w' := by
  refine ⟨?_, hb⟩
  rw [h]
theorem take_at {α : Type} {L : List α} {k : Nat} {x : α} (h : L[k]? = some x) : L.take (k + 1) = L.take k ++ [x] := by
  obtain ⟨hk, he⟩ := List.getElem?_eq_some_iff.1 h
  rw [List.take_succ_eq_append_getElem hk, he]
end Go.Proofs.YtbdokofdbeccdaaDoor.NamesS

/- The walks of layer 16's laws, over what the project's functions are asked. -/
namespace Go.Proofs.YtbdokofdbeccdaaDoor.NamesL
set_option linter.unusedVariables false
set_option linter.unusedSimpArgs false
open Go.RowKit
open Go.Proofs.YtbdokofdbeccdaaDoor.Byte Go.Proofs.YtbdokofdbeccdaaDoor.KeysM Go.Proofs.YtbdokofdbeccdaaDoor.NamesM Go.Proofs.YtbdokofdbeccdaaDoor.Lst Go.Proofs.YtbdokofdbeccdaaDoor.Tx Go.Proofs.YtbdokofdbeccdaaDoor.NamesR Go.Proofs.YtbdokofdbeccdaaDoor.NamesS
open Go.Proofs.YtbdokofdbeccdaaDoor.Own (keeps)

/-- The library's own variable holds some number. -/
def Mx (w : World) : Prop := ∃ m, w.cell? ⟨0, 0, none⟩ = some (.int .i64 m)
theorem Mx.below {w w' : World} (h : Mx w) (hb : Below w.heap.size w w') : Mx w' := by
  obtain ⟨m, hm⟩ := h
  have hlt : 0 < w.heap.size := Classical.byContradiction fun hn => by
    have h0 : w.heap[0]? = none := Array.getElem?_eq_none (by omega)
    simp [World.cell?, h0] at hm
  exact ⟨m, (hb.cell (p := ⟨0, 0, none⟩) hlt).trans hm⟩
def SplitOk : Prop := ∀ (s : ByteArray) (w : World), s.size ≤ 100000 → Mx w → Calls Tryd.prog 36 #[.string s] w (SplE s w)
theorem below_lit {w : World} (cs : Array Value) (T : TypeId) : Below w.heap.size w (w.alloc (.cells cs T)) := (Below.refl _ _).alloc (Nat.le_refl _) _
theorem spl_small (s : ByteArray) : (spl s).1.length ≤ 16 ∧ ∀ x ∈ (spl s).1, x.size ≤ 32 := by
  unfold spl
  split
  · exact ⟨by decide, fun x hx => by cases hx⟩
  · split
    · exact ⟨by decide, fun x hx => by cases hx⟩
    · split
      · exact ⟨by decide, fun x hx => by cases hx⟩
      · split
        · rename_i h
          rw [Bool.and_eq_true, decide_eq_true_eq] at h
          exact ⟨h.2, fun x hx => (name_pos (List.all_eq_true.1 h.1 x hx)).2⟩
        · exact ⟨by decide, fun x hx => by cases hx⟩
end Go.Proofs.YtbdokofdbeccdaaDoor.NamesL

/- Layer 17's cut and fixed, over what the project's walk is asked. -/
namespace Go.Proofs.YtbdokofdbeccdaaDoor.WalkE
set_option linter.unusedVariables false
set_option linter.unusedSimpArgs false
open Go.RowKit
open Go.Proofs.YtbdokofdbeccdaaDoor.Byte Go.Proofs.YtbdokofdbeccdaaDoor.KeysM Go.Proofs.YtbdokofdbeccdaaDoor.KeysR Go.Proofs.YtbdokofdbeccdaaDoor.TreeM Go.Proofs.YtbdokofdbeccdaaDoor.ViewM Go.Proofs.YtbdokofdbeccdaaDoor.NodeM Go.Proofs.YtbdokofdbeccdaaDoor.NamesM Go.Proofs.YtbdokofdbeccdaaDoor.WalkM Go.Proofs.YtbdokofdbeccdaaDoor.WalkF Go.Proofs.YtbdokofdbeccdaaDoor.Rw Go.Proofs.YtbdokofdbeccdaaDoor.Lst Go.Proofs.YtbdokofdbeccdaaDoor.Chg Go.Proofs.YtbdokofdbeccdaaDoor.TreeR Go.Proofs.YtbdokofdbeccdaaDoor.TreeS Go.Proofs.YtbdokofdbeccdaaDoor.TreeL Go.Proofs.YtbdokofdbeccdaaDoor.TreeG Go.Proofs.YtbdokofdbeccdaaDoor.TreeH Go.Proofs.YtbdokofdbeccdaaDoor.ViewR Go.Proofs.YtbdokofdbeccdaaDoor.ViewL Go.Proofs.YtbdokofdbeccdaaDoor.ViewP Go.Proofs.YtbdokofdbeccdaaDoor.WalkR Go.Proofs.YtbdokofdbeccdaaDoor.WalkL Go.Proofs.YtbdokofdbeccdaaDoor.WalkD
open Go.Proofs.YtbdokofdbeccdaaDoor.NamesL (Mx)
open Go.Proofs.YtbdokofdbeccdaaDoor.Own hiding keeps
variable {Rep : RepT}
theorem info_op : (Tryd.prog.info? 34).map (·.size) = some 8 := by kernel_rfl
theorem take_nx {α : Type} {L : List α} {k : Nat} {x : α} (h : L[k]? = some x) : L.take (k + 1) = L.take k ++ [x] := by
  obtain ⟨hk, he⟩ := List.getElem?_eq_some_iff.1 h
  rw [List.take_succ_eq_append_getElem hk, he]
theorem empty_iff (s : ByteArray) : s.toList = [] ↔ s.size = 0 := by
  rw [ByteArray.toList_eq]
  constructor
  · intro h
    have : s.data.toList.length = 0 := by rw [h]; rfl
    exact this
  · intro h
    exact List.eq_nil_of_length_eq_zero h
/-- The call answers with a front of the operations, all of which may be gone through. -/
def FrontQ (A : Option Addr) (n c : Nat) (L : List Op17) (w : World) (e : Ending) (w' : World) : Prop := ∃ m, e = .returned (.slice A m c) ∧ m ≤ n ∧ m ≤ 40 ∧ (∀ p ∈ L.take m, goodN p.name) ∧ Below w.heap.size w w'
set_option maxRecDepth 100000 in
set_option maxHeartbeats 4000000 in
theorem cut_calls (A : Option Addr) (n c : Nat) (L : List Op17) (w : World) (hl : Sl opE w A n L) (hn : n ≤ c) (hc : c ≤ maxLen) (hf : ∀ p ∈ L, OpB p) :
    Calls Tryd.prog 8 #[.slice A n c] w (FrontQ A n c L w) := by
  unfold maxLen at hc
  have HL := Lib.hid hl
  have HF := Lib.hid hf
  clear hl hf
  go_enter Tryd.func8, Tryd.ntmps8
  go_wp2
  go_loopw [7] (fun i wr => ∃ k : Nat, k ≤ n ∧ k ≤ 40 ∧ i = .int .i64 k ∧ Hid (∀ p ∈ L.take k, goodN p.name) ∧ Below w.heap.size w wr) (fun i _ => n - (intOf i).toNat)
  case atStart => exact ⟨0, Nat.zero_le _, Nat.zero_le _, rfl, Lib.hid (fun p hp => by simp at hp), Below.refl _ _⟩
  case round =>
    obtain ⟨k, hk, hk2, rfl, HK, hbel⟩ := hrel
    by_cases hlt : k < n
    · obtain ⟨x, g, o, hx, rfl, hg, hcl⟩ := (HL.out.below hbel).get k hlt
      have hfx := HF.out x (List.mem_of_getElem? hx)
      obtain ⟨kind, dir, ino, name, k1, l1, s1, p1⟩ := x
      have hnm : name.size ≤ 9223372036854775807 := hfx.nm
      have HC : Hid (wr.rangeAt g (o + k * 8) [.int .i64 kind, .int .u32 dir, .int .u32 ino, .string name, .int .u8 k1, .int .u32 l1, .int .u32 s1, .int .u32 p1]) := Lib.hid hcl
      have HX := Lib.hid hx
      have HBL := Lib.hid hbel
      have hbs := hbel.size
      have hkc : k ≤ c := by omega
      have hb1 : Below w.heap.size w (wr.alloc (.cells #[.int .i64 kind, .int .u32 dir, .int .u32 ino, .string name, .int .u8 k1, .int .u32 l1, .int .u32 s1, .int .u32 p1] 34)) := hbel.alloc hbs _
      have HB1 := Lib.hid hb1
      clear hcl hfx hx hbel hb1
      rcases (show 40 ≤ k ∨ (k < 40 ∧ 32 < name.size) ∨ (k < 40 ∧ name.size ≤ 32 ∧ name.size = 0) ∨ (k < 40 ∧ name.size ≤ 32 ∧ 0 < name.size) by omega) with q | ⟨q, q1⟩ | ⟨q, q1, q2⟩ | ⟨q, q1, q2⟩
      · have d1 : decide ((40 : Int) ≤ (k : Int)) = true := decide_eq_true (by omega)
        go_wp2_with ((with_reducible refine pick (some 11) ?_); refine wpList_load_mid rfl 34 _ rfl g (o + k * 8) rfl _ _ HC.out Tryd.underlying34 rfl info_op ?_)
        go_ret
        exact ⟨k, rfl, hk, hk2, HK.out, HB1.out⟩
      · have d1 : decide ((40 : Int) ≤ (k : Int)) = false := decide_eq_false (by omega)
        have d2 : decide ((32 : Int) < (name.size : Int)) = true := decide_eq_true (by omega)
        go_wp2_with ((with_reducible refine pick (some 11) ?_); refine wpList_load_mid rfl 34 _ rfl g (o + k * 8) rfl _ _ HC.out Tryd.underlying34 rfl info_op ?_)
        go_ret
        exact ⟨k, rfl, hk, hk2, HK.out, HB1.out⟩
      · have d1 : decide ((40 : Int) ≤ (k : Int)) = false := decide_eq_false (by omega)
        have d2 : decide ((32 : Int) < (name.size : Int)) = false := decide_eq_false (by omega)
        have d3 : name.toList = [] := (empty_iff name).2 q2
        go_wp2_with ((with_reducible refine pick (some 11) ?_); refine wpList_load_mid rfl 34 _ rfl g (o + k * 8) rfl _ _ HC.out Tryd.underlying34 rfl info_op ?_)
        go_ret
        exact ⟨k, rfl, hk, hk2, HK.out, HB1.out⟩
      · have d1 : decide ((40 : Int) ≤ (k : Int)) = false := decide_eq_false (by omega)
        have d2 : decide ((32 : Int) < (name.size : Int)) = false := decide_eq_false (by omega)
        have d3 : ¬ name.toList = [] := fun h => by have := (empty_iff name).1 h; omega
        have d4 : name.toList.isEmpty = false := by
          cases h : name.toList with
          | nil => exact absurd h d3
          | cons a b => rfl
        go_wp2_with ((with_reducible refine pick (some 11) ?_); refine wpList_load_mid rfl 34 _ rfl g (o + k * 8) rfl _ _ HC.out Tryd.underlying34 rfl info_op ?_)
        go_roundw
        case rel => exact ⟨k + 1, by omega, by omega, by go_num, Lib.hid (fun p hp => (by
          rw [take_nx HX.out] at hp
          rcases List.mem_append.1 hp with h | h
          · exact HK.out p h
          · rw [List.mem_singleton] at h
            subst h
            exact ⟨q2, q1⟩)), HB1.out⟩
        case measure => simp [intOf]; omega
    · obtain rfl : k = n := by omega
      have HBL := Lib.hid hbel
      clear hbel
      go_wp2
      go_ret
      exact ⟨k, rfl, Nat.le_refl _, hk2, HK.out, HBL.out⟩
/-- What the project's Find is asked. -/
def FindOk (Rep : RepT) : Prop := ∀ ⦃w v s S D⦄ (path : ByteArray), Rep w v s S D → Lim s → s.rd.length ≤ 900 → path.size ≤ 100000 → Mx w → Calls Tryd.prog 17 #[v, .string path] w fun e w' => ∃ s' S' D',
  e = .returned (.tuple #[.agg #[.int .u32 (findM s.shown path).1.dir, .string (findM s.shown path).1.name, .int .u32 (findM s.shown path).1.ino, .int .u8 (findM s.shown path).1.node.k, .int .u32 (findM s.shown path).1.node.l, .int .u32 (findM s.shown path).1.node.s, .int .u32 (findM s.shown path).1.node.p], .int .i64 (findM s.shown path).2]) ∧
  Rep w' v s' S' D' ∧ Stp S D S' D' w w' ∧ FindR s path s'
def FixOk : Prop := ∀ w : World, Mx w → Calls Tryd.prog 5 #[] w fun e w' => e = .returned (.bool true) ∧ Below w.heap.size w w'
set_option maxRecDepth 100000 in
theorem eqspot (d : Int) (n : ByteArray) (i k l s p : Int) (w : World) : (Op.equalIn 10000 47 (.agg #[.int .u32 d, .string n, .int .u32 i, .int .u8 k, .int .u32 l, .int .u32 s, .int .u32 p]) (.agg #[.int .u32 d, .string n, .int .u32 i, .int .u8 k, .int .u32 l, .int .u32 s, .int .u32 p])).run Tryd.prog w = .ok true w := by
  have u1 := Tryd.underlying5
  have u2 := Tryd.underlying23
  have u3 := Tryd.underlying9
  have hi : ∀ w : World, (Op.equalIn 9999 32 (.agg #[.int .u8 k, .int .u32 l, .int .u32 s, .int .u32 p]) (.agg #[.int .u8 k, .int .u32 l, .int .u32 s, .int .u32 p])).run Tryd.prog w = .ok true w := fun w => by
    rw [show (9999 : Nat) = 9998 + 1 from rfl, run_equalIn_struct w 9998 32 _ _ (by kernel_rfl) (by kernel_rfl)]
    have hfs : Tryd.prog.fieldsOf 32 = (match Tryd.prog.underlying 32 with | some (.struct fs) => fs | _ => #[]) := rfl
    rw [hfs, Tryd.underlying32]
    go_simp
  rw [show (10000 : Nat) = 9999 + 1 from rfl, run_equalIn_struct w 9999 47 _ _ (by kernel_rfl) (by kernel_rfl)]
  have hfs : Tryd.prog.fieldsOf 47 = (match Tryd.prog.underlying 47 with | some (.struct fs) => fs | _ => #[]) := rfl
  rw [hfs, Tryd.underlying47]
  go_simp
set_option maxRecDepth 100000 in
set_option maxHeartbeats 2000000 in
theorem fixed_calls (hV : Vwk Rep) (hF : FindOk Rep) : FixOk := by
  intro w hmx
  have HMX := Lib.hid hmx
  have HV := Lib.hid hV
  have HF := Lib.hid hF
  have EQ := eqspot 1 ⟨#[97]⟩ 0 0 0 0 0
  clear hV hF hmx
  go_enter Tryd.func5, Tryd.ntmps5
  go_wp2_with fail
  refine (new_calls _).mono ?_
  rintro e w1 ⟨v0, h0, rfl, hr0, hb1⟩
  have HB1 := Lib.hid hb1
  have HR0 := Lib.hid hr0
  clear hb1 hr0
  go_wp2_with fail
  refine (HV.out.new HR0.out).mono ?_
  rintro e w2 ⟨v, S, D, rfl, hr2, hS2, hD2, hb2⟩
  have HB2 := Lib.hid (keeps HB1.out hb2)
  have HR2 := Lib.hid hr2
  have HS2 := Lib.hid hS2
  have HSZ := Lib.hid hb2.size
  clear hb2 hr2 hS2 hD2
  go_wp2_with fail
  refine (HF.out ⟨#[47, 97]⟩ HR2.out lim_n (by decide) (by decide) (HMX.out.below HB2.out)).mono ?_
  have hsh : (⟨[], [], [], []⟩ : Vs).shown = [] := rfl
  rw [hsh, ex_find]
  rintro e w3 ⟨s', S', D', rfl, hr3, hst, _⟩
  have HB3 : Hid (Below w.heap.size w w3) := Lib.hid (below_chg HB2.out hst.chg (fun b hb => by
    have h1 := HS2.out b hb
    have h2 := HB1.out.size
    omega) (Nat.le_refl _))
  clear hsh hr3 hst
  dsimp only [ino0]
  go_wp2_with fail
  go_ret
  exact ⟨rfl, HB3.out.alloc HB3.out.size _⟩
end Go.Proofs.YtbdokofdbeccdaaDoor.WalkE

/- Layer 17's law WalkHangs, over what the project's walk is asked. -/
namespace Go.Proofs.YtbdokofdbeccdaaDoor.WalkH
set_option linter.unusedVariables false
set_option linter.unusedSimpArgs false
open Go.RowKit
open Go.Proofs.YtbdokofdbeccdaaDoor.Byte Go.Proofs.YtbdokofdbeccdaaDoor.KeysM Go.Proofs.YtbdokofdbeccdaaDoor.KeysR Go.Proofs.YtbdokofdbeccdaaDoor.TreeM Go.Proofs.YtbdokofdbeccdaaDoor.ViewM Go.Proofs.YtbdokofdbeccdaaDoor.NodeM Go.Proofs.YtbdokofdbeccdaaDoor.NamesM Go.Proofs.YtbdokofdbeccdaaDoor.WalkM Go.Proofs.YtbdokofdbeccdaaDoor.WalkF Go.Proofs.YtbdokofdbeccdaaDoor.Rw Go.Proofs.YtbdokofdbeccdaaDoor.Lst Go.Proofs.YtbdokofdbeccdaaDoor.Chg Go.Proofs.YtbdokofdbeccdaaDoor.TreeR Go.Proofs.YtbdokofdbeccdaaDoor.TreeS Go.Proofs.YtbdokofdbeccdaaDoor.TreeL Go.Proofs.YtbdokofdbeccdaaDoor.TreeG Go.Proofs.YtbdokofdbeccdaaDoor.TreeH Go.Proofs.YtbdokofdbeccdaaDoor.ViewR Go.Proofs.YtbdokofdbeccdaaDoor.ViewL Go.Proofs.YtbdokofdbeccdaaDoor.ViewP Go.Proofs.YtbdokofdbeccdaaDoor.WalkR Go.Proofs.YtbdokofdbeccdaaDoor.WalkL Go.Proofs.YtbdokofdbeccdaaDoor.WalkD Go.Proofs.YtbdokofdbeccdaaDoor.WalkE
open Go.Proofs.YtbdokofdbeccdaaDoor.NamesL (Mx)
open Go.Proofs.YtbdokofdbeccdaaDoor.Own hiding keeps
variable {Rep : RepT}
theorem good_key {L : List Pr} (h : GoodW L) : ∀ p ∈ L, p.key.size ≤ 140737488355328 := fun p hp => by
  have hk := h.keys p hp
  rcases sp_ways p.key with h1 | ⟨_, h2⟩ | ⟨_, _, h2⟩ | ⟨_, h2⟩
  · rw [h1] at hk
    exact absurd rfl hk
  · omega
  · omega
  · omega
/-- Both, in the course of the law: the view's blocks and the row's are the call's own. -/
structure PWn (Rep : RepT) (w0 : World) (w : World) (v : Value) (L : List Pr) (h : Sh) (S D : Nat → Prop) : Prop where
  pw : PW Rep w v L h S D
  new : ∀ b, S b → w0.heap.size ≤ b
  below : Below w0.heap.size w0 w
theorem PWn.step (hS : Stays Rep) {w0 w w' : World} {v : Value} {L : List Pr} {h : Sh} {S D : Nat → Prop} {e : Ending} (p : PWn Rep w0 w v L h S D) (r : DoR Rep v L h S D w e w') : ∃ S' D' h' L', e = .returned h'.v ∧ PWn Rep w0 w' v L' h' S' D' ∧ L'.length ≤ L.length + 1 := by
  obtain ⟨S', D', h', L', e1, p1, st, hl⟩ := r
  refine ⟨S', D', h', L', e1, ⟨p1, fun b hb => ?_, below_chg p.below st.chg p.new (Nat.le_refl _)⟩, hl⟩
  rcases st.own b hb with h1 | h1
  · exact p.new b h1
  · have := p.below.size
    omega
theorem PWn.under (hS : Stays Rep) {w0 w w' : World} {v : Value} {L : List Pr} {h : Sh} {S D : Nat → Prop} (p : PWn Rep w0 w v L h S D) (hb : Below w.heap.size w w') : PWn Rep w0 w' v L h S D :=
  ⟨p.pw.below hS hb, p.new, keeps p.below hb⟩
/-- A view as it stands, and a row beside it. -/
structure VR (Rep : RepT) (w0 w : World) (v : Value) (s : Vs) (h : Sh) (L : List Pr) (S D : Nat → Prop) : Prop where
  rep : Rep w v s S D
  row : Ss prE w h L
  off : Off S h
  new : ∀ b, S b → w0.heap.size ≤ b
  below : Below w0.heap.size w0 w
theorem VR.step {w0 w w' : World} {v : Value} {s s' : Vs} {h : Sh} {L : List Pr} {S D S' D' : Nat → Prop} (p : VR Rep w0 w v s h L S D) (hr : Rep w' v s' S' D') (st : Stp S D S' D' w w') : VR Rep w0 w' v s' h L S' D' := by
  refine ⟨hr, ss_chg p.row st.chg p.off, p.off.grow p.row st.own, fun b hb => ?_, below_chg p.below st.chg p.new (Nat.le_refl _)⟩
  rcases st.own b hb with h1 | h1
  · exact p.new b h1
  · have := p.below.size
    omega
theorem VR.under (hS : Stays Rep) {w0 w w' : World} {v : Value} {s : Vs} {h : Sh} {L : List Pr} {S D : Nat → Prop} (p : VR Rep w0 w v s h L S D) (hb : Below w.heap.size w w') : VR Rep w0 w' v s h L S D :=
  ⟨hS.below p.rep hb, p.row.below hb, p.off, p.new, keeps p.below hb⟩
theorem vs_cut2 {L rd : List Pr} {rg : List (ByteArray × ByteArray)} (h : L.length < 48) (k v : ByteArray) : (⟨[], L, rd, rg⟩ : Vs).write ⟨k, v, true⟩ = ⟨[], cutL k L, rd, rg⟩ := by
  unfold Vs.write
  rw [if_neg (by rw [not_full h]; decide)]
  unfold writeW
  rw [show ((⟨k, v, true⟩ : Pr).gone && (getL k []).isNone) = true from rfl, if_pos rfl]
theorem lim_rd {L rd : List Pr} (h : rd.length ≤ 1000) : Lim ⟨[], L, rd, []⟩ := ⟨by show (0 : Nat) ≤ 100; omega, h, by show (0 : Nat) ≤ 1000; omega⟩
theorem child_put {L : List Pr} {dir ino : Int} {name : ByteArray} (i0 : 0 ≤ ino) (i1 : ino ≤ 4294967295) : childM (putL (kE dir name) (hangV ino) L) dir name = (ino, true) := by
  unfold childM
  rw [get_put_same]
  show (if (hangV ino).size = 4 then (PackM.getn (txt (hangV ino)) 0 4, true) else (0, false)) = _
  rw [if_pos (hangV_size ino), hangV_get i0 i1]
theorem child_cut {L : List Pr} {dir : Int} {name : ByteArray} : childM (cutL (kE dir name) L) dir name = (0, false) := by
  unfold childM
  rw [get_cut_same]
set_option maxRecDepth 100000 in
set_option maxHeartbeats 8000000 in
theorem hangs_law (hV : Vwk Rep) (hW : Wks Rep) (hF : FixOk) (A : Option Addr) (n c : Nat) (ops : List Op17) (dir ino : Int) (name : ByteArray) (w : World) (hl : Sl opE w A n ops) (hn : n ≤ c) (hc : c ≤ maxLen) (hf : ∀ p ∈ ops, OpB p) (d0 : 0 ≤ dir) (d1 : dir ≤ 4294967295) (i0 : 0 ≤ ino) (i1 : ino ≤ 4294967295) (hnm : name.size ≤ 9223372036854775807) (hmx : Mx w) :
    Calls Tryd.prog 3 #[.slice A n c, .int .u32 dir, .int .u32 ino, .string name] w fun e w' => e = .returned (.bool true) ∧ Below w.heap.size w w' := by
  have HF := Lib.hid hF
  have HMX := Lib.hid hmx
  clear hmx
  have hs : (name.size : Int) ≤ 9223372036854775807 := by omega
  by_cases hbad : 32 < name.size ∨ name.size = 0
  · rcases (show 32 < name.size ∨ (name.size ≤ 32 ∧ name.size = 0) by omega) with q | ⟨q, q2⟩
    · have d2 : decide ((32 : Int) < (name.size : Int)) = true := decide_eq_true (by omega)
      clear hV hW hF hf hl hbad
      go_enter Tryd.func3, Tryd.ntmps3
      go_wp2_with fail
      refine (HF.out _ HMX.out).mono ?_
      rintro e w1 ⟨rfl, hb1⟩
      have HB1 := Lib.hid hb1
      clear hb1
      go_wp2_with fail
      go_ret
      exact ⟨rfl, HB1.out⟩
    · have d2 : decide ((32 : Int) < (name.size : Int)) = false := decide_eq_false (by omega)
      have d3 : name.toList = [] := (empty_iff name).2 q2
      clear hV hW hF hf hl hbad
      go_enter Tryd.func3, Tryd.ntmps3
      go_wp2_with fail
      refine (HF.out _ HMX.out).mono ?_
      rintro e w1 ⟨rfl, hb1⟩
      have HB1 := Lib.hid hb1
      clear hb1
      go_wp2_with fail
      go_ret
      exact ⟨rfl, HB1.out⟩
  · have hg : goodN name := ⟨by omega, by omega⟩
    have d2 : decide ((32 : Int) < (name.size : Int)) = false := decide_eq_false (by omega)
    have d3 : ¬ name.toList = [] := fun h => by have := (empty_iff name).1 h; omega
    have d4 : name.toList.isEmpty = false := by
      cases h : name.toList with
      | nil => exact absurd h d3
      | cons a b => rfl
    have HV := Lib.hid hV
    have HW := Lib.hid hW
    have HL := Lib.hid hl
    have HOB := Lib.hid hf
    have HGN := Lib.hid hg
    have hnm2 : name.size ≤ 100000 := by omega
    clear hV hW hF hf hl hbad hg
    go_enter Tryd.func3, Tryd.ntmps3
    go_wp2_with fail
    refine (new_calls _).mono ?_
    rintro e w1 ⟨v0, h0, rfl, hr0, hb1⟩
    have HB1 := Lib.hid hb1
    have HR0 := Lib.hid hr0
    clear hb1 hr0
    go_wp2_with fail
    refine (HV.out.new HR0.out).mono ?_
    rintro e w2 ⟨v, S, D, rfl, hr2, hS2, hD2, hb2⟩
    have HP2 : Hid (PWn Rep w w2 v [] ⟨none, 0, 0⟩ S D) := Lib.hid ⟨⟨hr2, ⟨Sl.nil_ _ _ _, Nat.le_refl _, Nat.zero_le _, fun _ => rfl, (fun b h => by cases h)⟩, (fun h => by cases h), GoodW.nil⟩, fun b hb => by have h1 := hS2 b hb; have h2 := HB1.out.size; omega, keeps HB1.out hb2⟩
    clear hb2 hr2 hS2 hD2
    go_wp2_with fail
    refine (cut_calls A n c ops w2 (HL.out.below HP2.out.below) hn hc HOB.out).mono ?_
    rintro e w3 ⟨m, rfl, hmn, hm40, hgood, hb3⟩
    have HP3 := Lib.hid (HP2.out.under HV.out.stays hb3)
    have HGO := Lib.hid hgood
    clear hgood hb3
    go_wp2_with fail
    go_loopw [10, 32] (fun r i wr => ∃ (k : Nat) (L : List Pr) (h : Sh) (S D : Nat → Prop), k ≤ m ∧ i = .int .i64 k ∧ r = .slice h.a h.n h.c ∧ L.length ≤ k ∧ Hid (PWn Rep w wr v L h S D)) (fun _ i _ => m - (intOf i).toNat)
    case atStart => exact ⟨0, [], ⟨none, 0, 0⟩, S, D, Nat.zero_le _, rfl, rfl, Nat.le_refl _, HP3⟩
    case round =>
      obtain ⟨k, L, h, S, D, hk, rfl, rfl, hLk, HP⟩ := hrel
      by_cases hlt : k < m
      · obtain ⟨x, g, o, hx, rfl, hg, hcl⟩ := (HL.out.below HP.out.below).get k (by omega)
        have hfx := HOB.out x (List.mem_of_getElem? hx)
        have hgx := HGO.out x (List.mem_of_getElem? (by rw [List.getElem?_take_of_lt hlt]; exact hx) )
        have HD := Lib.hid (fun w (p : PW Rep w v L h S D) => do_calls HV.out HW.out v L h S D x w p (by omega) hfx hgx)
        obtain ⟨kind, dir', ino', name', k1, l1, s1, p1⟩ := x
        dsimp only at HD
        have HC : Hid (wr.rangeAt g (o + k * 8) [.int .i64 kind, .int .u32 dir', .int .u32 ino', .string name', .int .u8 k1, .int .u32 l1, .int .u32 s1, .int .u32 p1]) := Lib.hid hcl
        clear hcl hfx hgx hx
        go_wp2_with ((with_reducible refine pick (some 35) ?_); refine wpList_load_mid rfl 34 _ rfl g (o + k * 8) rfl _ _ HC.out Tryd.underlying34 rfl info_op ?_)
        have hpa := HP.out.under HV.out.stays ((Below.refl wr.heap.size wr).alloc (Nat.le_refl _) (.cells #[.int .i64 kind, .int .u32 dir', .int .u32 ino', .string name', .int .u8 k1, .int .u32 l1, .int .u32 s1, .int .u32 p1] 34))
        have HPA := Lib.hid hpa
        clear hpa
        refine (HD.out _ HPA.out.pw).mono ?_
        intro e w4 hdo
        obtain ⟨S', D', h', L', rfl, hp', hl'⟩ := HPA.out.step HV.out.stays hdo
        have HP' := Lib.hid hp'
        clear hdo hp'
        go_wp2_with fail
        go_roundw
        case rel => exact ⟨k + 1, L', h', S', D', by omega, by go_num, rfl, by omega, HP'⟩
        case measure => simp [intOf]; omega
      · obtain rfl : k = m := by omega
        have hgL := HP.out.pw.good
        have hq1 := HW.out.hang dir name ino HP.out.pw.rep lim_n d0 d1 i0 i1 hnm2
        rw [vs_put (by omega)] at hq1
        dsimp only at hq1
        rw [not_full (L := L) (by omega)] at hq1
        have HQ1 := Lib.hid hq1
        have hg1 : GoodW (putL (kE dir name) (hangV ino) L) := hgL.put (letter_E d0 d1 HGN.out)
        have HVR := Lib.hid (⟨HP.out.pw.rep, HP.out.pw.row, HP.out.pw.off, HP.out.new, HP.out.below⟩ : VR Rep w wr v ⟨[], L, [], []⟩ h L S D)
        have HG1 := Lib.hid hg1
        have HG2 := Lib.hid (hg1.cut (kE dir name))
        have hl1 := put_len (kE dir name) (hangV ino) L
        have hlh : L.length = h.n := HP.out.pw.row.1.1
        have HLH := Lib.hid hlh
        have HCP := Lib.hid (cut_put_same hgL.rise (kE dir name) (hangV ino))
        have HCH := Lib.hid (child_put (L := L) (dir := dir) (name := name) i0 i1)
        have HCC := Lib.hid (child_cut (L := putL (kE dir name) (hangV ino) L) (dir := dir) (name := name))
        have HKY := Lib.hid (good_key hgL)
        have HEN := Lib.hid (fun w => refE_calls dir name w (by unfold maxLen; omega) d0 d1)
        generalize hL1 : putL (kE dir name) (hangV ino) L = L1 at *
        have HL1 := Lib.hid hl1
        clear hq1 hg1 hgL hL1 hl1 hlh
        go_wp2_with fail
        refine HQ1.out.mono ?_
        rintro e w4 ⟨S4, D4, rfl, hr4, hst4⟩
        have HV4 := Lib.hid (HVR.out.step hr4 hst4)
        clear hr4 hst4
        go_wp2_with fail
        refine (HW.out.child dir name HV4.out.rep (lim_rd (by decide)) d0 d1 hnm2).mono ?_
        rw [show (⟨[], L1, [], []⟩ : Vs).shown = L1 from shown_good HG1.out, HCH.out]
        rintro e w5 ⟨S5, D5, rfl, hr5, hst5⟩
        have HV5 : Hid (VR Rep w w5 v ⟨[], L1, putP ⟨kE dir name, ⟨#[]⟩, false⟩ [], []⟩ h L S5 D5) := Lib.hid (HV4.out.step hr5 hst5)
        clear hr5 hst5
        go_wp2_with fail
        have hq2 := HW.out.unhang dir name HV5.out.rep (lim_rd (by have := putP_len ⟨kE dir name, ⟨#[]⟩, false⟩ []; simp at this; omega)) d0 d1 hnm2
        rw [vs_cut2 (by have := HL1.out; omega)] at hq2
        dsimp only at hq2
        rw [not_full (L := L1) (by have := HL1.out; omega)] at hq2
        refine hq2.mono ?_
        rintro e w6 ⟨S6, D6, rfl, hr6, hst6⟩
        have HV6 := Lib.hid (HV5.out.step hr6 hst6)
        clear hr6 hst6 hq2
        go_wp2_with fail
        refine (HW.out.child dir name HV6.out.rep (lim_rd (by have := putP_len ⟨kE dir name, ⟨#[]⟩, false⟩ []; simp at this; omega)) d0 d1 hnm2).mono ?_
        rw [show (⟨[], cutL (kE dir name) L1, putP ⟨kE dir name, ⟨#[]⟩, false⟩ [], []⟩ : Vs).shown = cutL (kE dir name) L1 from shown_good HG2.out, HCC.out]
        rintro e w7 ⟨S7, D7, rfl, hr7, hst7⟩
        have HV7 : Hid (VR Rep w w7 v ⟨[], cutL (kE dir name) L1, putP ⟨kE dir name, ⟨#[]⟩, false⟩ (putP ⟨kE dir name, ⟨#[]⟩, false⟩ []), []⟩ h L S7 D7) := Lib.hid (HV6.out.step hr7 hst7)
        clear hr7 hst7
        go_wp2_with fail
        refine (HF.out _ (HMX.out.below HV7.out.below)).mono ?_
        rintro e w8 ⟨rfl, hb8⟩
        have HV8 := Lib.hid (HV7.out.under HV.out.stays hb8)
        clear hb8
        go_wp2_with fail
        refine (HW.out.list dir HV8.out.rep (lim_rd (by have h1 := putP_len ⟨kE dir name, ⟨#[]⟩, false⟩ []; have h2 := putP_len ⟨kE dir name, ⟨#[]⟩, false⟩ (putP ⟨kE dir name, ⟨#[]⟩, false⟩ []); simp at h1; omega)) d0 d1 (by
          rw [show (⟨[], cutL (kE dir name) L1, putP ⟨kE dir name, ⟨#[]⟩, false⟩ (putP ⟨kE dir name, ⟨#[]⟩, false⟩ []), []⟩ : Vs).shown = cutL (kE dir name) L1 from shown_good HG2.out]
          exact HG2.out.keys)).mono ?_
        rw [show (⟨[], cutL (kE dir name) L1, putP ⟨kE dir name, ⟨#[]⟩, false⟩ (putP ⟨kE dir name, ⟨#[]⟩, false⟩ []), []⟩ : Vs).shown = cutL (kE dir name) L1 from shown_good HG2.out]
        rintro e w9 ⟨A9, m9, c9, x9, y9, S9, D9, rfl, hsl9, hr9, hst9⟩
        have HV9 := Lib.hid (HV8.out.step hr9 hst9)
        have HM9 : Hid (m9 = (listM dir (cutL (kE dir name) L)).length) := Lib.hid (by rw [← HCP.out]; exact hsl9.1.symm)
        clear hr9 hst9 hsl9
        go_wp2_with fail
        refine (HEN.out _).mono ?_
        rintro e w10 ⟨rfl, hb10⟩
        have HV10 := Lib.hid (HV9.out.under HV.out.stays hb10)
        clear hb10
        go_wp2_with fail
        refine (refcut_calls h.a h.n h.c L (kE dir name) w10 HV10.out.row.1 (by have := HLH.out; omega)).mono ?_
        rintro e w11 ⟨vv, rfl, hso, hb11⟩
        obtain ⟨A11, c11, rfl, _⟩ := Tx.So.head hso
        have HV11 := Lib.hid (HV10.out.under HV.out.stays hb11)
        have HS11 := Lib.hid hso.sl
        have HN11 : Hid ((cutL (kE dir name) L).length ≤ 1000) := Lib.hid (by have h1 := cut_len (kE dir name) L; omega)
        clear hb11 hso
        go_wp2_with fail
        refine (reflist_calls A11 _ c11 _ dir w11 HS11.out HN11.out (fun p hp => HKY.out p (List.mem_filter.1 hp).1)).mono ?_
        rintro e w12 ⟨A12, m12, c12, rfl, hso12, hb12⟩
        have HB12 := Lib.hid (keeps HV11.out.below hb12)
        obtain rfl : m9 = m12 := by rw [HM9.out]; exact hso12.1
        clear hso12 hb12
        go_wp2_with fail
        go_ret
        exact ⟨rfl, HB12.out⟩
end Go.Proofs.YtbdokofdbeccdaaDoor.WalkH
