import Derived.Test.YtfalhnomhidkcaaGreatDoorDirsM
import Derived.Test.YtfalhnomhidkcaaGreatDoorNodeM
import Derived.Test.YtfalhnomhidkcaaGreatDoorDirsThereMBN
import Derived.Test.YtfalhnomhidkcaaGreatDoorDirsThereMBX
set_option linter.unusedVariables false
set_option linter.unusedSimpArgs false
namespace Go.Proofs.YtfalhnomhidkcaaGreatDoor.DirsW
open Byte PackM KeysM TreeM ViewM ViewKm NodeM NamesM WalkM DirsM
def upd {α : Type} (f : Int → α) (i : Int) (x : α) : Int → α := fun j => if j = i then x else f j
theorem upd_same {α : Type} (f : Int → α) (i : Int) (x : α) : upd f i x i = x := if_pos rfl
theorem upd_ne {α : Type} (f : Int → α) {i j : Int} (x : α) (h : j ≠ i) : upd f i x j = f j := if_neg h
theorem node_with {F : Fs} (h : Nod F) {n m : Nd} (hm : m ∈ F) (hi : m.ino = n.ino) (j : Int) : nodeM (withM F n) j = if j = n.ino then some n else nodeM F j := by
 have hn := nod_with h hm hi
 by_cases hj : j = n.ino
 ·rw [if_pos hj]
  exact (node_iff hn).2 ⟨(mem_with h hm hi).2 (.inl rfl),hj.symm⟩
 ·rw [if_neg hj]
  cases hx : nodeM F j with
  | none =>
    refine node_no fun x hx2 e => ?_
    rcases (mem_with h hm hi).1 hx2 with rfl | ⟨h1,h2⟩
    ·exact hj e.symm
    ·have := node_of h h1
     rw [e,hx] at this
     cases this
  | some x =>
    have h1 := node_mem hx
    exact (node_iff hn).2 ⟨(mem_with h hm hi).2 (.inr ⟨h1.1,by rw [h1.2]; exact hj⟩),h1.2⟩
theorem node_none {F : Fs} {i : Int} (h : nodeM F i = none) : ∀ x ∈ F,x.ino ≠ i := fun x hx e => by
 unfold nodeM at h
 have := List.find?_eq_none.1 h x hx
 simp [e] at this
theorem node_new {F : Fs} (h : Nod F) {n : Nd} (hn : nodeM F n.ino = none) (j : Int) : nodeM (withM F n) j = if j = n.ino then some n else nodeM F j := by
 have hnn := node_none hn
 have hn2 := nod_new h hnn
 by_cases hj : j = n.ino
 ·rw [if_pos hj]
  exact (node_iff hn2).2 ⟨(mem_new hnn).2 (.inl rfl),hj.symm⟩
 ·rw [if_neg hj]
  cases hx : nodeM F j with
  | none =>
    refine node_no fun x hx2 e => ?_
    rcases (mem_new hnn).1 hx2 with rfl | h1
    ·exact hj e.symm
    ·have := node_of h h1
     rw [e,hx] at this
     cases this
  | some x =>
    have h1 := node_mem hx
    exact (node_iff hn2).2 ⟨(mem_new hnn).2 (.inr h1.1),h1.2⟩
theorem node_wo {F : Fs} (h : Nod F) (i j : Int) : nodeM (withoutM F i) j = if j = i then none else nodeM F j := by
 by_cases hj : j = i
 ·rw [if_pos hj]
  exact node_no fun x hx e => (mem_wo.1 hx).2 (by rw [e,hj])
 ·rw [if_neg hj]
  cases hx : nodeM F j with
  | none => exact node_no fun x hx2 => node_none hx x (mem_wo.1 hx2).1
  | some x =>
    have h1 := node_mem hx
    exact (node_iff (nod_wo h i)).2 ⟨mem_wo.2 ⟨h1.1,by rw [h1.2]; exact hj⟩,h1.2⟩
theorem linked_eq {F : Fs} {i by_ : Int} {n : Nd} (hn : nodeM F i = some n) : linkedM F i by_ = withM F { n with links := n.links + by_ } := by unfold linkedM; rw [hn]
theorem named_eq {F : Fs} {d i : Int} {nm : ByteArray} {n : Nd} (hn : nodeM F d = some n) : namedM F d nm i = withM F { n with ents := insE nm i (decide (i = 0)) n.ents } := by unfold namedM; rw [hn]
theorem nod_linked {F : Fs} (h : Nod F) {i by_ : Int} {n : Nd} (hn : nodeM F i = some n) : Nod (linkedM F i by_) := by
 rw [linked_eq hn]; exact nod_with h (node_mem hn).1 rfl
theorem nod_named {F : Fs} (h : Nod F) {d i : Int} {nm : ByteArray} {n : Nd} (hn : nodeM F d = some n) : Nod (namedM F d nm i) := by
 rw [named_eq hn]; exact nod_with h (node_mem hn).1 rfl
theorem node_linked {F : Fs} (h : Nod F) {i by_ : Int} {n : Nd} (hn : nodeM F i = some n) (j : Int) : nodeM (linkedM F i by_) j = if j = i then some { n with links := n.links + by_ } else nodeM F j := by
 have h1 := node_mem hn
 rw [linked_eq hn,node_with (n := { n with links := n.links + by_ }) h h1.1 rfl]
 show (if j = n.ino then _ else _) = _
 rw [h1.2]
theorem node_named {F : Fs} (h : Nod F) {d i : Int} {nm : ByteArray} {n : Nd} (hn : nodeM F d = some n) (j : Int) : nodeM (namedM F d nm i) j = if j = d then some { n with ents := insE nm i (decide (i = 0)) n.ents } else nodeM F j := by
 have h1 := node_mem hn
 rw [named_eq hn,node_with (n := { n with ents := insE nm i (decide (i = 0)) n.ents }) h h1.1 rfl]
 show (if j = n.ino then _ else _) = _
 rw [h1.2]
theorem cnt_linked {F : Fs} (h : Nod F) {i by_ : Int} {n : Nd} (hn : nodeM F i = some n) (j : Int) : cnt (linkedM F i by_) j = cnt F j := by
 have h1 := node_mem hn
 rw [linked_eq hn]
 have := S_with (n := { n with links := n.links + by_ }) h h1.1 rfl (toE j)
 have e : toE j { n with links := n.links + by_ } = toE j n := rfl
 unfold cnt
 omega
theorem cnt_new {F : Fs} {n : Nd} (hn : nodeM F n.ino = none) (he : n.ents = []) (j : Int) : cnt (withM F n) j = cnt F j := by
 have := S_new (node_none hn) (toE j)
 have e : toE j n = 0 := by unfold toE; rw [he]; rfl
 unfold cnt
 omega
theorem cnt_wo {F : Fs} (h : Nod F) {i : Int} {n : Nd} (hn : nodeM F i = some n) (he : n.ents = []) (j : Int) : cnt (withoutM F i) j = cnt F j := by
 have h1 := node_mem hn
 have := S_wo h h1.1 (toE j)
 have e : toE j n = 0 := by unfold toE; rw [he]; rfl
 rw [h1.2] at this
 unfold cnt
 omega
def oldE (n : Nd) (nm : ByteArray) (j : Int) : Nat := (n.ents.filter fun e => decide (e.name = nm)).countP fun e => decide (e.ino = j)
theorem old_some {n : Nd} (ho : Ord n.ents) {e : En} (he : e ∈ n.ents) (j : Int) : oldE n e.name j = if e.ino = j then 1 else 0 := by
 unfold oldE
 rcases name_filter ho e.name with h1 | ⟨x,h1,h2,h3⟩
 ·have := List.filter_eq_nil_iff.1 h1 e he
  simp at this
 ·rw [h3,ord_eq ho h1 he h2]
  by_cases h : e.ino = j <;> simp [h]
theorem old_none {n : Nd} {nm : ByteArray} (h : ∀ e ∈ n.ents,e.name ≠ nm) (j : Int) : oldE n nm j = 0 := by
 unfold oldE
 rw [List.filter_eq_nil_iff.2 (fun e he => by simpa using h e he)]
 rfl
theorem cnt_named {F : Fs} (h : Nod F) {d i : Int} {nm : ByteArray} {n : Nd} (hn : nodeM F d = some n) (ho : Ord n.ents) (j : Int) : cnt (namedM F d nm i) j + oldE n nm j = cnt F j + (if i ≠ 0 ∧ i = j then 1 else 0) := by
 have h1 := node_mem hn
 rw [named_eq hn]
 have h2 := S_with (n := { n with ents := insE nm i (decide (i = 0)) n.ents }) h h1.1 rfl (toE j)
 have h3 := count_ins ho nm i (fun e => decide (e.ino = j))
 have e1 : toE j { n with ents := insE nm i (decide (i = 0)) n.ents } = (insE nm i (decide (i = 0)) n.ents).countP (fun e => decide (e.ino = j)) := rfl
 have e2 : toE j n = n.ents.countP (fun e => decide (e.ino = j)) := rfl
 simp only [decide_eq_true_eq] at h3
 unfold cnt oldE
 omega
def dirB (F : Fs) (j : Int) : Bool := match nodeM F j with
 | some n => decide (n.kind = 2)
 | none => false
def subs (F : Fs) (l : List En) : Nat := l.countP fun e => dirB F e.ino
def wantC (m : Nd) : Int := if m.ino = 1 then 0 else if m.kind = 2 then 1 else m.links
structure Wd (F : Fs) (π δ ε : Int → Int) (x : Int) : Prop where
 nod : Nod F
 root : ∃ n,nodeM F 1 = some n ∧ n.kind = 2
 ino : ∀ n ∈ F,1 ≤ n.ino ∧ n.ino ≤ 4294967295
 kind : ∀ n ∈ F,n.kind = 2 ∨ (n.kind = 1 ∧ n.ents = [])
 data : ∀ n ∈ F,n.data.size ≤ 4096 ∧ (n.kind = 2 → n.data = NE)
 ord : ∀ n ∈ F,Ord n.ents
 name : ∀ n ∈ F,∀ e ∈ n.ents,nameOk e.name = true
 some_ : ∀ n ∈ F,∀ e ∈ n.ents,1 ≤ e.ino ∧ e.ino ≤ 4294967295
 goes : ∀ n ∈ F,∀ e ∈ n.ents,e.ino ≠ x → ∃ m,nodeM F e.ino = some m
 par : ∀ n ∈ F,∀ e ∈ n.ents,dirB F e.ino = true → π e.ino = n.ino
 par1 : π 1 = 1
 cnt : ∀ m ∈ F,(cnt F m.ino : Int) = wantC m + δ m.ino
 pos : ∀ m ∈ F,m.kind = 1 → 1 ≤ m.links ∧ m.links ≤ 1000
 dl : ∀ m ∈ F,m.kind = 2 → m.links = 2 + subs F m.ents + ε m.ino
def zro : Int → Int := fun _ => 0
abbrev Wf (F : Fs) (π : Int → Int) : Prop := Wd F π zro zro 0
theorem Wd.eq {F : Fs} {π δ ε δ' ε' : Int → Int} {x : Int} (h : Wd F π δ ε x) (h1 : ∀ j,δ j = δ' j) (h2 : ∀ j,ε j = ε' j) : Wd F π δ' ε' x := by
 rw [← funext h1,← funext h2]
 exact h
section
variable {F : Fs} {π δ ε : Int → Int} {x : Int}
theorem dir_some {F : Fs} {j : Int} {n : Nd} (h : nodeM F j = some n) : dirB F j = decide (n.kind = 2) := by unfold dirB; rw [h]
theorem dir_none {F : Fs} {j : Int} (h : nodeM F j = none) : dirB F j = false := by unfold dirB; rw [h]
theorem dir_eq {F F' : Fs} {j : Int} (h : nodeM F' j = nodeM F j) : dirB F' j = dirB F j := by unfold dirB; rw [h]
theorem Wd.ex_none (h : Wd F π δ ε x) {i : Int} (hi : nodeM F i = none) (hx : i ≠ x) : ∀ n ∈ F,∀ e ∈ n.ents,e.ino ≠ i := fun n hn e he ei => by
 obtain ⟨m,hm⟩ := h.goes n hn e he (by rw [ei]; exact hx)
 rw [ei,hi] at hm
 cases hm
theorem subs_eq {F F' : Fs} {l : List En} (h : ∀ e ∈ l,dirB F' e.ino = dirB F e.ino) : subs F' l = subs F l := by
 unfold subs
 exact List.countP_congr (fun e he => by rw [h e he])
theorem Wd.new_ (h : Wd F π δ ε x) {i k : Int} (hi : nodeM F i = none) (hx : i ≠ x) (h1 : 2 ≤ i) (h2 : i ≤ 4294967295) : Wd (withM F (newNd k i)) π (upd δ i (-1)) (upd ε i 0) x := by
 have hino : (newNd k i).ino = i := by unfold newNd; split <;> rfl
 have hents : (newNd k i).ents = [] := by unfold newNd; split <;> rfl
 have hi' : nodeM F (newNd k i).ino = none := by rw [hino]; exact hi
 have hne := h.ex_none hi hx
 have hN : ∀ j,nodeM (withM F (newNd k i)) j = if j = i then some (newNd k i) else nodeM F j := fun j => by rw [node_new h.nod hi',hino]
 have hmem : ∀ y,y ∈ withM F (newNd k i) ↔ y = newNd k i ∨ y ∈ F := fun y => mem_new (node_none hi')
 have hold : ∀ y ∈ F,y.ino ≠ i := node_none hi
 have hd : ∀ n ∈ F,∀ e ∈ n.ents,dirB (withM F (newNd k i)) e.ino = dirB F e.ino := fun n hn e he => dir_eq (by rw [hN,if_neg (hne n hn e he)])
 have hk : (newNd k i).kind = 1 ∧ (newNd k i).links = 1 ∨ (newNd k i).kind = 2 ∧ (newNd k i).links = 2 := by
  unfold newNd
  split
  ·exact .inl ⟨rfl,rfl⟩
  ·exact .inr ⟨rfl,rfl⟩
 have hdata : (newNd k i).data = NE := by unfold newNd; split <;> rfl
 refine ⟨nod_new h.nod (node_none hi'),?_,?_,?_,?_,?_,?_,?_,?_,?_,h.par1,?_,?_,?_⟩
 ·obtain ⟨n,h3,h4⟩ := h.root
  exact ⟨n,by rw [hN,if_neg (by omega)]; exact h3,h4⟩
 ·intro n hn
  rcases (hmem n).1 hn with rfl | hn
  ·rw [hino]; omega
  ·exact h.ino n hn
 ·intro n hn
  rcases (hmem n).1 hn with rfl | hn
  ·rcases hk with h3 | h3
   ·exact .inr ⟨h3.1,hents⟩
   ·exact .inl h3.1
  ·exact h.kind n hn
 ·intro n hn
  rcases (hmem n).1 hn with rfl | hn
  ·exact ⟨by rw [hdata]; decide,fun _ => hdata⟩
  ·exact h.data n hn
 ·intro n hn
  rcases (hmem n).1 hn with rfl | hn
  ·rw [hents]; exact List.Pairwise.nil
  ·exact h.ord n hn
 ·intro n hn e he
  rcases (hmem n).1 hn with rfl | hn
  ·rw [hents] at he; cases he
  ·exact h.name n hn e he
 ·intro n hn e he
  rcases (hmem n).1 hn with rfl | hn
  ·rw [hents] at he; cases he
  ·exact h.some_ n hn e he
 ·intro n hn e he hex
  rcases (hmem n).1 hn with rfl | hn
  ·rw [hents] at he; cases he
  ·obtain ⟨m,hm⟩ := h.goes n hn e he hex
   exact ⟨m,by rw [hN,if_neg (hne n hn e he)]; exact hm⟩
 ·intro n hn e he hdr
  rcases (hmem n).1 hn with rfl | hn
  ·rw [hents] at he; cases he
  ·rw [hd n hn e he] at hdr
   exact h.par n hn e he hdr
 ·intro m hm
  rcases (hmem m).1 hm with rfl | hm
  ·rw [hino,cnt_new hi' hents]
   have hz : DirsM.cnt F i = 0 := by
    have := (cnt_pos (f := F) (i := i)).1
    have h3 : ¬ 0 < DirsM.cnt F i := fun h4 => by
     obtain ⟨n,hn,e,he,hei⟩ := this h4
     exact hne n hn e he hei
    omega
   unfold wantC
   rw [hz,hino,upd_same,if_neg (by omega)]
   rcases hk with h3 | h3
   ·rw [h3.1,h3.2,if_neg (by decide)]; rfl
   ·rw [h3.1,if_pos rfl]; rfl
  ·rw [cnt_new hi' hents,upd_ne _ _ (hold m hm)]
   exact h.cnt m hm
 ·intro m hm hk1
  rcases (hmem m).1 hm with rfl | hm
  ·rcases hk with h3 | h3
   ·rw [h3.2]; omega
   ·rw [h3.1] at hk1; omega
  ·exact h.pos m hm hk1
 ·intro m hm hk1
  rcases (hmem m).1 hm with rfl | hm
  ·rw [hents,hino,upd_same]
   rcases hk with h3 | h3
   ·rw [h3.1] at hk1; omega
   ·rw [h3.2]; rfl
  ·rw [subs_eq (hd m hm),upd_ne _ _ (hold m hm)]
   exact h.dl m hm hk1
theorem Wd.link (h : Wd F π δ ε x) {i y : Int} {n : Nd} (hn : nodeM F i = some n) (hp : n.kind = 1 → 1 ≤ n.links + y ∧ n.links + y ≤ 1000) (hi1 : n.kind = 1 → i ≠ 1) : Wd (linkedM F i y) π (if n.kind = 2 then δ else upd δ i (δ i - y)) (if n.kind = 2 then upd ε i (ε i + y) else ε) x := by
 have hm := node_mem hn
 have hN := fun j => node_linked (by_ := y) h.nod hn j
 have hmem : ∀ z,z ∈ linkedM F i y ↔ z = { n with links := n.links + y } ∨ (z ∈ F ∧ z.ino ≠ i) := fun z => by
  rw [linked_eq hn,mem_with (n := { n with links := n.links + y }) h.nod hm.1 rfl]
  show _ ∨ (_ ∧ z.ino ≠ n.ino) ↔ _
  rw [hm.2]
 have hd : ∀ j,dirB (linkedM F i y) j = dirB F j := fun j => by
  unfold dirB
  rw [hN]
  by_cases hj : j = i
  ·rw [if_pos hj,hj,hn]
  ·rw [if_neg hj]
 have hs : ∀ l,subs (linkedM F i y) l = subs F l := fun l => subs_eq (fun e _ => hd e.ino)
 refine ⟨nod_linked h.nod hn,?_,?_,?_,?_,?_,?_,?_,?_,?_,h.par1,?_,?_,?_⟩
 ·obtain ⟨r,h3,h4⟩ := h.root
  rw [hN]
  by_cases hj : (1 : Int) = i
  ·rw [if_pos hj]
   rw [hj,hn] at h3
   injection h3 with h3
   subst h3
   exact ⟨_,rfl,h4⟩
  ·rw [if_neg hj]
   exact ⟨r,h3,h4⟩
 ·intro z hz
  rcases (hmem z).1 hz with rfl | ⟨hz,_⟩
  ·exact h.ino n hm.1
  ·exact h.ino z hz
 ·intro z hz
  rcases (hmem z).1 hz with rfl | ⟨hz,_⟩
  ·exact h.kind n hm.1
  ·exact h.kind z hz
 ·intro z hz
  rcases (hmem z).1 hz with rfl | ⟨hz,_⟩
  ·exact h.data n hm.1
  ·exact h.data z hz
 ·intro z hz
  rcases (hmem z).1 hz with rfl | ⟨hz,_⟩
  ·exact h.ord n hm.1
  ·exact h.ord z hz
 ·intro z hz e he
  rcases (hmem z).1 hz with rfl | ⟨hz,_⟩
  ·exact h.name n hm.1 e he
  ·exact h.name z hz e he
 ·intro z hz e he
  rcases (hmem z).1 hz with rfl | ⟨hz,_⟩
  ·exact h.some_ n hm.1 e he
  ·exact h.some_ z hz e he
 ·intro z hz e he hex
  obtain ⟨m,hm2⟩ : ∃ m,nodeM F e.ino = some m := by
   rcases (hmem z).1 hz with rfl | ⟨hz,_⟩
   ·exact h.goes n hm.1 e he hex
   ·exact h.goes z hz e he hex
  rw [hN]
  by_cases hj : e.ino = i
  ·rw [if_pos hj]; exact ⟨_,rfl⟩
  ·rw [if_neg hj]; exact ⟨m,hm2⟩
 ·intro z hz e he hdr
  rw [hd] at hdr
  rcases (hmem z).1 hz with rfl | ⟨hz,_⟩
  ·exact h.par n hm.1 e he hdr
  ·exact h.par z hz e he hdr
 ·intro z hz
  rw [cnt_linked h.nod hn]
  rcases (hmem z).1 hz with rfl | ⟨hz,hzi⟩
  ·have h3 := h.cnt n hm.1
   show (DirsM.cnt F n.ino : Int) = wantC { n with links := n.links + y } + _
   unfold wantC at h3 ⊢
   dsimp only
   by_cases hk : n.kind = 2
   ·rw [if_pos hk]
    rw [if_pos hk] at h3 ⊢
    exact h3
   ·rw [if_neg hk]
    rw [if_neg hk] at h3 ⊢
    have hk1 : n.kind = 1 := by rcases h.kind n hm.1 with h4 | h4; exact absurd h4 hk; exact h4.1
    have hne := hi1 hk1
    rw [hm.2] at h3 ⊢
    rw [if_neg hne] at h3 ⊢
    rw [upd_same,h3]
    show n.links + δ i = n.links + y + (δ i - y)
    omega
  ·have h3 := h.cnt z hz
   by_cases hk : n.kind = 2
   ·rw [if_pos hk]; exact h3
   ·rw [if_neg hk,upd_ne _ _ hzi]; exact h3
 ·intro z hz hk
  rcases (hmem z).1 hz with rfl | ⟨hz,_⟩
  ·exact hp hk
  ·exact h.pos z hz hk
 ·intro z hz hk
  rw [hs]
  rcases (hmem z).1 hz with rfl | ⟨hz,hzi⟩
  ·have hk2 : n.kind = 2 := hk
   have h3 := h.dl n hm.1 hk2
   rw [if_pos hk2]
   show n.links + y = 2 + subs F n.ents + upd ε i (ε i + y) n.ino
   rw [hm.2,upd_same]
   rw [hm.2] at h3
   omega
  ·have h3 := h.dl z hz hk
   by_cases hk2 : n.kind = 2
   ·rw [if_pos hk2,upd_ne _ _ hzi]; exact h3
   ·rw [if_neg hk2]; exact h3
theorem Wd.named (h : Wd F π δ ε x) {d i : Int} {nm : ByteArray} {n : Nd} {π' : Int → Int} (hn : nodeM F d = some n) (hk2 : n.kind = 2)
 (hi : i ≠ 0 → nameOk nm = true ∧ 1 ≤ i ∧ i ≤ 4294967295 ∧ ∃ m,nodeM F i = some m ∧ (m.kind = 2 → π' i = d))
 (hπ : ∀ z ∈ F,∀ e ∈ z.ents,(z.ino = d → e.name ≠ nm) → dirB F e.ino = true → π' e.ino = z.ino) (hπ1 : π' 1 = 1) :
 Wd (namedM F d nm i) π' (fun j => δ j + (if i ≠ 0 ∧ i = j then 1 else 0) - oldE n nm j) (upd ε d (ε d + ((n.ents.filter fun e => decide (e.name = nm)).countP fun e => dirB F e.ino : Nat) - (if i ≠ 0 ∧ dirB F i = true then 1 else 0))) x := by
 have hm := node_mem hn
 have ho := h.ord n hm.1
 have hN := fun j => node_named (i := i) (nm := nm) h.nod hn j
 have hmem : ∀ z,z ∈ namedM F d nm i ↔ z = { n with ents := insE nm i (decide (i = 0)) n.ents } ∨ (z ∈ F ∧ z.ino ≠ d) := fun z => by
  rw [named_eq hn,mem_with (n := { n with ents := insE nm i (decide (i = 0)) n.ents }) h.nod hm.1 rfl]
  show _ ∨ (_ ∧ z.ino ≠ n.ino) ↔ _
  rw [hm.2]
 have hd : ∀ j,dirB (namedM F d nm i) j = dirB F j := fun j => by
  unfold dirB
  rw [hN]
  by_cases hj : j = d
  ·rw [if_pos hj,hj,hn]
  ·rw [if_neg hj]
 have hs : ∀ l,subs (namedM F d nm i) l = subs F l := fun l => subs_eq (fun e _ => hd e.ino)
 have hins : ∀ e,e ∈ insE nm i (decide (i = 0)) n.ents ↔ (i ≠ 0 ∧ e = ⟨nm,i⟩) ∨ (e ∈ n.ents ∧ e.name ≠ nm) := fun e => mem_ins ho
 refine ⟨nod_named h.nod hn,?_,?_,?_,?_,?_,?_,?_,?_,?_,hπ1,?_,?_,?_⟩
 ·obtain ⟨r,h3,h4⟩ := h.root
  rw [hN]
  by_cases hj : (1 : Int) = d
  ·rw [if_pos hj]
   rw [hj,hn] at h3
   injection h3 with h3
   subst h3
   exact ⟨_,rfl,h4⟩
  ·rw [if_neg hj]
   exact ⟨r,h3,h4⟩
 ·intro z hz
  rcases (hmem z).1 hz with rfl | ⟨hz,_⟩
  ·exact h.ino n hm.1
  ·exact h.ino z hz
 ·intro z hz
  rcases (hmem z).1 hz with rfl | ⟨hz,_⟩
  ·exact .inl hk2
  ·exact h.kind z hz
 ·intro z hz
  rcases (hmem z).1 hz with rfl | ⟨hz,_⟩
  ·exact h.data n hm.1
  ·exact h.data z hz
 ·intro z hz
  rcases (hmem z).1 hz with rfl | ⟨hz,_⟩
  ·exact ord_ins ho nm i
  ·exact h.ord z hz
 ·intro z hz e he
  rcases (hmem z).1 hz with rfl | ⟨hz,_⟩
  ·rcases (hins e).1 he with ⟨h1,rfl⟩ | ⟨h1,_⟩
   ·exact (hi h1).1
   ·exact h.name n hm.1 e h1
  ·exact h.name z hz e he
 ·intro z hz e he
  rcases (hmem z).1 hz with rfl | ⟨hz,_⟩
  ·rcases (hins e).1 he with ⟨h1,rfl⟩ | ⟨h1,_⟩
   ·exact ⟨(hi h1).2.1,(hi h1).2.2.1⟩
   ·exact h.some_ n hm.1 e h1
  ·exact h.some_ z hz e he
 ·intro z hz e he hex
  obtain ⟨m,hm2⟩ : ∃ m,nodeM F e.ino = some m := by
   rcases (hmem z).1 hz with rfl | ⟨hz,_⟩
   ·rcases (hins e).1 he with ⟨h1,rfl⟩ | ⟨h1,_⟩
    ·obtain ⟨m,h3,_⟩ := (hi h1).2.2.2
     exact ⟨m,h3⟩
    ·exact h.goes n hm.1 e h1 hex
   ·exact h.goes z hz e he hex
  rw [hN]
  by_cases hj : e.ino = d
  ·rw [if_pos hj]; exact ⟨_,rfl⟩
  ·rw [if_neg hj]; exact ⟨m,hm2⟩
 ·intro z hz e he hdr
  rw [hd] at hdr
  rcases (hmem z).1 hz with rfl | ⟨hz,hzd⟩
  ·show π' e.ino = n.ino
   rcases (hins e).1 he with ⟨h1,rfl⟩ | ⟨h1,h2⟩
   ·obtain ⟨m,h3,h4⟩ := (hi h1).2.2.2
    rw [dir_some h3,decide_eq_true_eq] at hdr
    rw [hm.2]
    exact h4 hdr
   ·exact hπ n hm.1 e h1 (fun _ => h2) hdr
  ·exact hπ z hz e he (fun h5 => absurd h5 hzd) hdr
 ·intro z hz
  have hc := cnt_named (i := i) (nm := nm) h.nod hn ho z.ino
  have h3 : (DirsM.cnt F z.ino : Int) = wantC z + δ z.ino := by
   rcases (hmem z).1 hz with rfl | ⟨hz,_⟩
   ·exact h.cnt n hm.1
   ·exact h.cnt z hz
  show ((DirsM.cnt (namedM F d nm i) z.ino : Nat) : Int) = wantC z + (δ z.ino + (if i ≠ 0 ∧ i = z.ino then 1 else 0) - oldE n nm z.ino)
  by_cases hq : i ≠ 0 ∧ i = z.ino
  ·rw [if_pos hq] at hc ⊢
   omega
  ·rw [if_neg hq] at hc ⊢
   omega
 ·intro z hz hk
  rcases (hmem z).1 hz with rfl | ⟨hz,_⟩
  ·exact h.pos n hm.1 hk
  ·exact h.pos z hz hk
 ·intro z hz hk
  rw [hs]
  rcases (hmem z).1 hz with rfl | ⟨hz,hzd⟩
  ·have h3 := h.dl n hm.1 hk2
   have h4 := count_ins ho nm i (fun e => dirB F e.ino)
   show n.links = 2 + subs F (insE nm i (decide (i = 0)) n.ents) + upd ε d _ n.ino
   rw [hm.2,upd_same]
   rw [hm.2] at h3
   have e1 : subs F (insE nm i (decide (i = 0)) n.ents) = (insE nm i (decide (i = 0)) n.ents).countP (fun e => dirB F e.ino) := rfl
   have e2 : subs F n.ents = n.ents.countP (fun e => dirB F e.ino) := rfl
   by_cases hq : i ≠ 0 ∧ dirB F i = true
   ·rw [if_pos hq] at h4 ⊢
    omega
   ·rw [if_neg hq] at h4 ⊢
    omega
  ·rw [upd_ne _ _ hzd]
   exact h.dl z hz hk
theorem filter_one {l : List En} (h : Ord l) {e : En} (he : e ∈ l) : (l.filter fun y => decide (y.name = e.name)) = [e] := by
 rcases name_filter h e.name with h1 | ⟨y,h1,h2,h3⟩
 ·have := List.filter_eq_nil_iff.1 h1 e he
  simp at this
 ·rw [h3,ord_eq h h1 he h2]
theorem Wd.del (h : Wd F π δ ε x) {d : Int} {n : Nd} {e : En} (hn : nodeM F d = some n) (hk2 : n.kind = 2) (he : e ∈ n.ents) :
 Wd (namedM F d e.name 0) π (upd δ e.ino (δ e.ino - 1)) (if dirB F e.ino = true then upd ε d (ε d + 1) else ε) x := by
 have hm := node_mem hn
 have ho := h.ord n hm.1
 have h0 := h.named (i := 0) (nm := e.name) (π' := π) hn hk2 (fun h => absurd rfl h) (fun z hz y hy _ hd => h.par z hz y hy hd) h.par1
 refine h0.eq (fun j => ?_) (fun j => ?_)
 ·rw [old_some ho he]
  simp only [ne_eq,not_true_eq_false,false_and,if_false]
  unfold upd
  by_cases hj : j = e.ino
  ·rw [if_pos hj,if_pos hj.symm,hj]; omega
  ·rw [if_neg hj,if_neg (fun h => hj h.symm)]; omega
 ·rw [filter_one ho he]
  simp only [ne_eq,not_true_eq_false,false_and,if_false]
  unfold upd
  by_cases hd : dirB F e.ino = true
  ·rw [if_pos hd]
   by_cases hj : j = d
   ·rw [if_pos hj,if_pos hj]
    simp [List.countP_cons,hd]
   ·rw [if_neg hj,if_neg hj]
  ·rw [if_neg hd]
   by_cases hj : j = d
   ·rw [if_pos hj]
    simp [List.countP_cons,hd,hj]
   ·rw [if_neg hj]
theorem Wd.ins (h : Wd F π δ ε x) {d i : Int} {nm : ByteArray} {n m : Nd} {π' : Int → Int} (hn : nodeM F d = some n) (hk2 : n.kind = 2) (hno : ∀ e ∈ n.ents,e.name ≠ nm) (hnm : nameOk nm = true) (h1 : 1 ≤ i) (h2 : i ≤ 4294967295) (hmi : nodeM F i = some m)
 (hπ : (m.kind ≠ 2 ∧ π' = π) ∨ (m.kind = 2 ∧ i ≠ 1 ∧ π' = upd π i d ∧ ∀ z ∈ F,∀ e ∈ z.ents,e.ino ≠ i)) :
 Wd (namedM F d nm i) π' (upd δ i (δ i + 1)) (if m.kind = 2 then upd ε d (ε d - 1) else ε) x := by
 have hm := node_mem hn
 have ho := h.ord n hm.1
 have hdi := dir_some hmi
 have h0 := h.named (i := i) (nm := nm) (π' := π') hn hk2 (fun _ => ⟨hnm,h1,h2,m,hmi,fun hk => by
  rcases hπ with h3 | h3
  ·exact absurd hk h3.1
  ·rw [h3.2.2.1,upd_same]⟩) (fun z hz y hy _ hd => by
  rcases hπ with h3 | h3
  ·rw [h3.2]; exact h.par z hz y hy hd
  ·rw [h3.2.2.1,upd_ne _ _ (h3.2.2.2 z hz y hy)]; exact h.par z hz y hy hd) (by
  rcases hπ with h3 | h3
  ·rw [h3.2]; exact h.par1
  ·rw [h3.2.2.1,upd_ne _ _ (fun e => h3.2.1 e.symm)]; exact h.par1)
 have hf : (n.ents.filter fun e => decide (e.name = nm)) = [] := List.filter_eq_nil_iff.2 (fun e he => by simpa using hno e he)
 refine h0.eq (fun j => ?_) (fun j => ?_)
 ·rw [old_none hno]
  unfold upd
  by_cases hj : j = i
  ·rw [if_pos hj,if_pos ⟨by omega,hj.symm⟩,hj]; omega
  ·rw [if_neg hj,if_neg (fun h => hj h.2.symm)]; omega
 ·rw [hf]
  unfold upd
  rw [hdi]
  by_cases hk : m.kind = 2
  ·rw [if_pos hk,decide_eq_true hk]
   by_cases hj : j = d
   ·rw [if_pos hj,if_pos hj,if_pos ⟨by omega,rfl⟩]; simp
   ·rw [if_neg hj,if_neg hj]
  ·rw [if_neg hk,decide_eq_false hk]
   by_cases hj : j = d
   ·rw [if_pos hj,if_neg (fun h => by cases h.2),hj]; simp
   ·rw [if_neg hj]
theorem Wd.drop (h : Wd F π δ ε 0) {d i : Int} {n m : Nd} {e : En} (hn : nodeM F d = some n) (he : e ∈ n.ents) (hei : e.ino = i) (hmi : nodeM F i = some m) (hme : m.ents = []) (h1 : i ≠ 1) (hc : DirsM.cnt F i = 1) :
 Wd (withoutM F i) π δ (if m.kind = 2 then upd ε d (ε d + 1) else ε) i := by
 have hmn := node_mem hn
 have hmm := node_mem hmi
 have hN := fun j => node_wo h.nod i j
 have hdi : d ≠ i := fun hq => by
  rw [hq,hmi] at hn
  injection hn with hn
  rw [← hn,hme] at he
  cases he
 have hdj : ∀ j,dirB (withoutM F i) j = if j = i then false else dirB F j := fun j => by
  by_cases hj : j = i
  ·rw [if_pos hj]; exact dir_none (by rw [hN,if_pos hj])
  ·rw [if_neg hj]; exact dir_eq (by rw [hN,if_neg hj])
 have hother : ∀ z ∈ F,z.ino ≠ d → ∀ y ∈ z.ents,y.ino ≠ i := fun z hz hzd y hy hyi => by
  have := cnt_one h.nod (i := i) (by omega) hz hmn.1 hy he hyi hei
  exact hzd (by rw [this.1,hmn.2])
 refine ⟨nod_wo h.nod i,?_,fun z hz => h.ino z (mem_wo.1 hz).1,fun z hz => h.kind z (mem_wo.1 hz).1,fun z hz => h.data z (mem_wo.1 hz).1,fun z hz => h.ord z (mem_wo.1 hz).1,fun z hz => h.name z (mem_wo.1 hz).1,fun z hz => h.some_ z (mem_wo.1 hz).1,?_,?_,h.par1,?_,fun z hz => h.pos z (mem_wo.1 hz).1,?_⟩
 ·obtain ⟨r,h3,h4⟩ := h.root
  exact ⟨r,by rw [hN,if_neg (fun e => h1 e.symm)]; exact h3,h4⟩
 ·intro z hz y hy hyi
  obtain ⟨q,hq⟩ := h.goes z (mem_wo.1 hz).1 y hy (by have := (h.some_ z (mem_wo.1 hz).1 y hy).1; omega)
  exact ⟨q,by rw [hN,if_neg hyi]; exact hq⟩
 ·intro z hz y hy hd
  rw [hdj] at hd
  by_cases hj : y.ino = i
  ·rw [if_pos hj] at hd; cases hd
  ·rw [if_neg hj] at hd
   exact h.par z (mem_wo.1 hz).1 y hy hd
 ·intro z hz
  rw [cnt_wo h.nod hmi hme]
  exact h.cnt z (mem_wo.1 hz).1
 ·intro z hz hk
  have hz' := mem_wo.1 hz
  have h3 := h.dl z hz'.1 hk
  by_cases hk2 : m.kind = 2
  ·rw [if_pos hk2]
   have hsub : ∀ l : List En,subs F l = subs (withoutM F i) l + l.countP (fun y => decide (y.ino = i)) := by
    intro l
    unfold subs
    induction l with
    | nil => rfl
    | cons y l ih =>
      rw [List.countP_cons,List.countP_cons,List.countP_cons,ih,hdj]
      by_cases hj : y.ino = i
      ·rw [if_pos hj,hj,dir_some hmi,decide_eq_true hk2]; simp; omega
      ·rw [if_neg hj]; simp [hj]; omega
   have h4 := hsub z.ents
   by_cases hzd : z.ino = d
   ·have e1 : toE i z = 1 := by
     have h5 := S_le hz'.1 (toE i)
     have h6 : z = n := nod_eq h.nod hz'.1 hmn.1 (by rw [hzd,hmn.2])
     have h7 : 0 < toE i z := toE_pos.2 ⟨e,by rw [h6]; exact he,hei⟩
     unfold DirsM.cnt at hc
     omega
    unfold toE at e1
    rw [hzd,upd_same]
    rw [hzd] at h3
    omega
   ·have e1 : z.ents.countP (fun y => decide (y.ino = i)) = 0 := List.countP_eq_zero.2 (fun y hy => by simpa using hother z hz'.1 hzd y hy)
    rw [upd_ne _ _ hzd]
    omega
  ·rw [if_neg hk2,subs_eq (F := F) (F' := withoutM F i) (fun y hy => by
    rw [hdj]
    by_cases hj : y.ino = i
    ·rw [if_pos hj,hj,dir_some hmi,decide_eq_false hk2]
    ·rw [if_neg hj])]
   exact h3
theorem Wd.clean (h : Wd F π δ ε x) (hx : ∀ n ∈ F,∀ e ∈ n.ents,e.ino ≠ x) : Wd F π δ ε 0 :=
 { h with goes := fun n hn e he _ => h.goes n hn e he (hx n hn e he) }
end
end Go.Proofs.YtfalhnomhidkcaaGreatDoor.DirsW
namespace Go.Proofs.YtfalhnomhidkcaaGreatDoor.FileM
open Byte PackM KeysM
def cut0 : List Int → List Int
 | [] => []
 | x :: r => match cut0 r with
   | [] => if x = 0 then [] else [x]
   | y :: q => x :: y :: q
def blkL (d : ByteArray) (w : Nat) : List Int := cut0 (((txt d).drop (64 * w)).take 64)
def blkG (d : ByteArray) (w : Int) : Option ByteArray := if blkL d w.toNat = [] then none else some (str (blkL d w.toNat))
theorem blkG_nil (w : Int) : blkG ⟨#[]⟩ w = none := by
 have h : blkL ⟨#[]⟩ w.toNat = [] := by
  unfold blkL
  rw [show txt ⟨#[]⟩ = [] from rfl,List.drop_nil,List.take_nil]
  rfl
 unfold blkG
 rw [if_pos h]
end Go.Proofs.YtfalhnomhidkcaaGreatDoor.FileM
namespace Go.Proofs.YtfalhnomhidkcaaGreatDoor.DirsX
open FileM Byte PackM KeysM TreeM ViewM ViewKm NodeM NamesM WalkM WalkF WalkKm DirsM DirsV DirsW
def gk (L : List Pr) (k : ByteArray) : Option ByteArray := (getL k L).map (·.value)
abbrev Gf := ByteArray → Option ByteArray
def setG (g : Gf) (p : Pr) : Gf := fun k => if k = p.key then (if p.gone = true then none else some p.value) else g k
theorem get_iff {L : List Pr} (hr : Rise L) {k : ByteArray} {p : Pr} : getL k L = some p ↔ p ∈ L ∧ p.key = k :=
 ⟨fun h => ⟨List.mem_of_find?_eq_some h,by simpa using List.find?_some h⟩,fun ⟨h1,h2⟩ => by rw [← h2]; exact get_mem hr h1⟩
theorem gk_done {L : List Pr} (hr : Rise L) (p : Pr) : gk (doneW L p) = setG (gk L) p := by
 funext k
 unfold gk setG
 have hr2 := rise_done hr p
 by_cases hk : k = p.key
 ·rw [if_pos hk]
  by_cases hg : p.gone = true
  ·rw [if_pos hg,get_none' (fun q hq e => by
    rcases mem_done.1 hq with ⟨h1,_⟩ | ⟨_,h2⟩
    ·rw [hg] at h1; cases h1
    ·exact h2 (by rw [e,hk]))]
   rfl
  ·rw [if_neg hg,(get_iff hr2 (p := ⟨p.key,p.value,false⟩)).2 ⟨mem_done.2 (.inl ⟨by simpa using hg,rfl⟩),hk.symm⟩]
   rfl
 ·rw [if_neg hk]
  cases hq : getL k L with
  | none =>
    rw [get_none' (fun q hq2 e => by
     rcases mem_done.1 hq2 with ⟨_,h1⟩ | ⟨h1,_⟩
     ·rw [h1] at e; exact hk e.symm
     ·exact get_none hq q h1 e)]
    show _ = Option.map _ (getL k L); rw [hq]
  | some q =>
    have h1 := (get_iff hr).1 hq
    rw [(get_iff hr2 (p := q)).2 ⟨mem_done.2 (.inr ⟨h1.1,fun e => hk (by rw [← h1.2,e])⟩),h1.2⟩]
    show _ = Option.map _ (getL k L); rw [hq]
theorem gone_done {L : List Pr} (h : ∀ p ∈ L,p.gone = false) (q : Pr) : ∀ p ∈ doneW L q,p.gone = false := fun p hp => by
 rcases mem_done.1 hp with ⟨_,h1⟩ | ⟨h1,_⟩
 ·rw [h1]
 ·exact h p h1
def outW (L : List Pr) : List Wrt → List Pr
 | [] => L
 | p :: ps => outW (doneW L (p L)) ps
theorem go_out : ∀ (ps : List Wrt) {s : Vs},s.Ok → (goW s ps).2 = true → (goW s ps).1.shown = outW s.shown ps ∧ (goW s ps).1.Ok
 | [],s,ho,_ => ⟨rfl,ho⟩
 | p :: ps,s,ho,h => by
   cases hf : fullW s.wr (p s.shown) with
   | true => rw [goW_full hf] at h; cases h
   | false =>
     rw [goW_room hf] at h ⊢
     have h1 : (s.write (p s.shown)).shown = doneW s.shown (p s.shown) := by
      unfold Vs.write
      rw [if_neg (by rw [hf]; decide)]
      exact shown_write ho.base ho.wr _
     have h2 := go_out ps (ok_write ho _) h
     rw [h1] at h2
     exact h2
def loadG (g : Gf) (i : Int) : Ino × Bool := match g (kI i) with
 | none => if i = 1 then (⟨2,2,0,1⟩,true) else (ino0,false)
 | some v => if gok v then (⟨gk v,gl v,gs v,gp v⟩,true) else (ino0,false)
where gk := NodeM.gk
theorem load_g (L : List Pr) (i : Int) : loadM L i = loadG (gk L) i := by
 unfold loadM loadG gk
 cases getL (kI i) L <;> rfl
def childG (g : Gf) (d : Int) (nm : ByteArray) : Int × Bool := match g (kE d nm) with
 | none => (0,false)
 | some v => if v.size = 4 then (PackM.getn (txt v) 0 4,true) else (0,false)
theorem child_g (L : List Pr) (d : Int) (nm : ByteArray) : childM L d nm = childG (gk L) d nm := by
 unfold childM childG gk
 cases getL (kE d nm) L <;> rfl
theorem kI_inj {i j : Int} (h0 : 0 ≤ i) (h1 : i ≤ 4294967295) (j0 : 0 ≤ j) (j1 : j ≤ 4294967295) (h : kI i = kI j) : i = j := by
 have a := sp_I i h0 h1
 rw [h,sp_I j j0 j1] at a
 injection a with _ a
 exact a.symm
theorem kE_inj {i j : Int} {a b : ByteArray} (h0 : 0 ≤ i) (h1 : i ≤ 4294967295) (j0 : 0 ≤ j) (j1 : j ≤ 4294967295) (ha : goodN a) (hb : goodN b) (h : kE i a = kE j b) : i = j ∧ a = b := by
 have x := sp_E i a h0 h1 ha.1 ha.2
 rw [h,sp_E j b j0 j1 hb.1 hb.2] at x
 injection x with _ x y
 exact ⟨x.symm,y.symm⟩
theorem kIE {i j : Int} {a : ByteArray} (h0 : 0 ≤ i) (h1 : i ≤ 4294967295) (j0 : 0 ≤ j) (j1 : j ≤ 4294967295) (ha : goodN a) : kI i ≠ kE j a := fun h => by
 have x := sp_I i h0 h1
 rw [h,sp_E j a j0 j1 ha.1 ha.2] at x
 injection x with x
 cases x
theorem kD_inj {i j v w : Int} (h0 : 0 ≤ i) (h1 : i ≤ 4294967295) (j0 : 0 ≤ j) (j1 : j ≤ 4294967295) (hv : 0 ≤ v ∧ v ≤ 65535) (hw : 0 ≤ w ∧ w ≤ 65535) (h : kD i v = kD j w) : i = j ∧ v = w := by
 have x := sp_D i v h0 h1 hv.1 hv.2
 rw [h,sp_D j w j0 j1 hw.1 hw.2] at x
 injection x with _ x _ y
 exact ⟨x.symm,y.symm⟩
theorem kID {i j w : Int} (h0 : 0 ≤ i) (h1 : i ≤ 4294967295) (j0 : 0 ≤ j) (j1 : j ≤ 4294967295) (hw : 0 ≤ w ∧ w ≤ 65535) : kI i ≠ kD j w := fun h => by
 have x := sp_I i h0 h1
 rw [h,sp_D j w j0 j1 hw.1 hw.2] at x
 injection x with x
 cases x
theorem kED {i j w : Int} {a : ByteArray} (h0 : 0 ≤ i) (h1 : i ≤ 4294967295) (j0 : 0 ≤ j) (j1 : j ≤ 4294967295) (ha : goodN a) (hw : 0 ≤ w ∧ w ≤ 65535) : kE i a ≠ kD j w := fun h => by
 have x := sp_E i a h0 h1 ha.1 ha.2
 rw [h,sp_D j w j0 j1 hw.1 hw.2] at x
 injection x with x
 cases x
theorem good_of {s : ByteArray} (h : nameOk s = true) : goodN s := name_pos h
def inoW (π : Int → Int) (n : Nd) : ByteArray := nput n.kind n.links n.data.size (if n.kind = 2 then π n.ino else 0)
structure Bs (F : Fs) : Prop where
 nod : Nod F
 ino : ∀ n ∈ F,1 ≤ n.ino ∧ n.ino ≤ 4294967295
 ord : ∀ n ∈ F,Ord n.ents
 name : ∀ n ∈ F,∀ e ∈ n.ents,goodN e.name
theorem Bs.of {F : Fs} {π δ ε : Int → Int} {x : Int} (h : Wd F π δ ε x) : Bs F := ⟨h.nod,h.ino,h.ord,fun n hn e he => good_of (h.name n hn e he)⟩
structure RG (F : Fs) (π : Int → Int) (g : Gf) : Prop where
 keys : ∀ k,g k ≠ none → (∃ n ∈ F,k = kI n.ino) ∨ (∃ n ∈ F,∃ e ∈ n.ents,k = kE n.ino e.name) ∨ (∃ n ∈ F,∃ w,(0 ≤ w ∧ w ≤ 65535) ∧ k = kD n.ino w ∧ blkG n.data w ≠ none)
 inos : ∀ n ∈ F,g (kI n.ino) = some (inoW π n) ∨ (n.ino = 1 ∧ n.kind = 2 ∧ n.links = 2 ∧ g (kI 1) = none)
 ents : ∀ n ∈ F,∀ e ∈ n.ents,g (kE n.ino e.name) = some (hangV e.ino)
 blks : ∀ n ∈ F,∀ w,0 ≤ w ∧ w ≤ 65535 → g (kD n.ino w) = blkG n.data w
section
variable {F : Fs} {π : Int → Int} {g : Gf}
theorem setG_same (g : Gf) (p : Pr) : setG g p p.key = if p.gone = true then none else some p.value := if_pos rfl
theorem setG_ne (g : Gf) {p : Pr} {k : ByteArray} (h : k ≠ p.key) : setG g p k = g k := if_neg h
theorem RG.new_ (h : RG F π g) (b : Bs F) {n : Nd} (hn : nodeM F n.ino = none) (he : n.ents = []) (hd : n.data = NE) (h1 : 1 ≤ n.ino) (h2 : n.ino ≤ 4294967295) : RG (withM F n) π (setG g ⟨kI n.ino,inoW π n,false⟩) := by
 have hne := node_none hn
 have hmem : ∀ z,z ∈ withM F n ↔ z = n ∨ z ∈ F := fun z => mem_new hne
 refine ⟨fun k hk => ?_,fun z hz => ?_,fun z hz e hez => ?_,fun z hz w hw => ?_⟩
 ·by_cases hq : k = kI n.ino
  ·exact .inl ⟨n,(hmem n).2 (.inl rfl),hq⟩
  ·rw [setG_ne g (p := ⟨kI n.ino,inoW π n,false⟩) hq] at hk
   rcases h.keys k hk with ⟨m,h3,h4⟩ | ⟨m,h3,e,h4,h5⟩ | ⟨m,h3,w,h4,h5,h6⟩
   ·exact .inl ⟨m,(hmem m).2 (.inr h3),h4⟩
   ·exact .inr (.inl ⟨m,(hmem m).2 (.inr h3),e,h4,h5⟩)
   ·exact .inr (.inr ⟨m,(hmem m).2 (.inr h3),w,h4,h5,h6⟩)
 ·rcases (hmem z).1 hz with rfl | hz
  ·left
   exact setG_same g ⟨kI z.ino,inoW π z,false⟩
  ·have hzi := b.ino z hz
   have hq : ∀ j,1 ≤ j → j ≤ 4294967295 → j ≠ n.ino → kI j ≠ kI n.ino := fun j a c d e => d (kI_inj (by omega) c (by omega) h2 e)
   rcases h.inos z hz with h3 | ⟨h3,h4,h5,h6⟩
   ·left
    rw [setG_ne g (p := ⟨kI n.ino,inoW π n,false⟩) (hq z.ino hzi.1 hzi.2 (hne z hz))]
    exact h3
   ·right
    exact ⟨h3,h4,h5,by rw [setG_ne g (p := ⟨kI n.ino,inoW π n,false⟩) (hq 1 (by omega) (by omega) (by rw [← h3]; exact hne z hz))]; exact h6⟩
 ·rcases (hmem z).1 hz with rfl | hz
  ·rw [he] at hez; cases hez
  ·have hzi := b.ino z hz
   rw [setG_ne g (p := ⟨kI n.ino,inoW π n,false⟩) (kIE (by omega) h2 (by omega) hzi.2 (b.name z hz e hez)).symm]
   exact h.ents z hz e hez
 ·rcases (hmem z).1 hz with rfl | hz
  ·rw [hd,blkG_nil,setG_ne g (p := ⟨kI z.ino,inoW π z,false⟩) (kID (by omega) h2 (by omega) h2 hw).symm]
   cases hg : g (kD z.ino w) with
   | none => rfl
   | some v =>
     exfalso
     rcases h.keys _ (by rw [hg]; simp) with ⟨m,h3,h4⟩ | ⟨m,h3,e,h4,h5⟩ | ⟨m,h3,u,h4,h5,h6⟩
     ·have hb := b.ino m h3
      exact kID (by omega) hb.2 (by omega) h2 hw h4.symm
     ·have hb := b.ino m h3
      exact kED (by omega) hb.2 (by omega) h2 (b.name m h3 e h4) hw h5.symm
     ·have hb := b.ino m h3
      exact hne m h3 (kD_inj (by omega) h2 (by omega) hb.2 hw h4 h5).1.symm
  ·have hzi := b.ino z hz
   rw [setG_ne g (p := ⟨kI n.ino,inoW π n,false⟩) (kID (by omega) h2 (by omega) hzi.2 hw).symm]
   exact h.blks z hz w hw
theorem RG.save_ (h : RG F π g) (b : Bs F) {n n' : Nd} {π' : Int → Int} (hn : nodeM F n.ino = some n) (hi : n'.ino = n.ino) (he : n'.ents = n.ents) (hd : n'.data = n.data) (hπ : ∀ j,j ≠ n.ino → π' j = π j) : RG (withM F n') π' (setG g ⟨kI n.ino,inoW π' n',false⟩) := by
 have hm := node_mem hn
 have hmem : ∀ z,z ∈ withM F n' ↔ z = n' ∨ (z ∈ F ∧ z.ino ≠ n.ino) := fun z => by rw [mem_with b.nod hm.1 hi.symm,hi]
 have hni := b.ino n hm.1
 refine ⟨fun k hk => ?_,fun z hz => ?_,fun z hz e hez => ?_,fun z hz w hw => ?_⟩
 ·by_cases hq : k = kI n.ino
  ·exact .inl ⟨n',(hmem n').2 (.inl rfl),by rw [hi]; exact hq⟩
  ·rw [setG_ne g (p := ⟨kI n.ino,inoW π' n',false⟩) hq] at hk
   rcases h.keys k hk with ⟨m,h3,h4⟩ | ⟨m,h3,e,h4,h5⟩ | ⟨m,h3,w,h4,h5,h6⟩
   ·refine .inl ⟨m,(hmem m).2 (.inr ⟨h3,fun e => hq (by rw [h4,e])⟩),h4⟩
   ·by_cases hmn : m.ino = n.ino
    ·have : m = n := nod_eq b.nod h3 hm.1 hmn
     subst this
     exact .inr (.inl ⟨n',(hmem n').2 (.inl rfl),e,by rw [he]; exact h4,by rw [hi]; exact h5⟩)
    ·exact .inr (.inl ⟨m,(hmem m).2 (.inr ⟨h3,hmn⟩),e,h4,h5⟩)
   ·by_cases hmn : m.ino = n.ino
    ·have : m = n := nod_eq b.nod h3 hm.1 hmn
     subst this
     exact .inr (.inr ⟨n',(hmem n').2 (.inl rfl),w,h4,by rw [hi]; exact h5,by rw [hd]; exact h6⟩)
    ·exact .inr (.inr ⟨m,(hmem m).2 (.inr ⟨h3,hmn⟩),w,h4,h5,h6⟩)
 ·rcases (hmem z).1 hz with rfl | ⟨hz,hzn⟩
  ·left
   rw [hi]
   exact setG_same g ⟨kI n.ino,inoW π' z,false⟩
  ·have hzi := b.ino z hz
   have hq : kI z.ino ≠ kI n.ino := fun e => hzn (kI_inj (by omega) hzi.2 (by omega) hni.2 e)
   have hw : inoW π' z = inoW π z := by unfold inoW; rw [hπ z.ino hzn]
   rcases h.inos z hz with h3 | ⟨h3,h4,h5,h6⟩
   ·left
    rw [setG_ne g (p := ⟨kI n.ino,inoW π' n',false⟩) hq,hw]
    exact h3
   ·right
    exact ⟨h3,h4,h5,by rw [setG_ne g (p := ⟨kI n.ino,inoW π' n',false⟩) (by rw [← h3]; exact hq)]; exact h6⟩
 ·obtain ⟨y,hy,hyi,hye⟩ : ∃ y ∈ F,y.ino = z.ino ∧ e ∈ y.ents := by
   rcases (hmem z).1 hz with rfl | ⟨hz,_⟩
   ·exact ⟨n,hm.1,hi.symm,by rw [← he]; exact hez⟩
   ·exact ⟨z,hz,rfl,hez⟩
  have hyb := b.ino y hy
  rw [← hyi,setG_ne g (p := ⟨kI n.ino,inoW π' n',false⟩) (kIE (by omega) hni.2 (by omega) hyb.2 (b.name y hy e hye)).symm]
  exact h.ents y hy e hye
 ·obtain ⟨y,hy,hyi,hye⟩ : ∃ y ∈ F,y.ino = z.ino ∧ y.data = z.data := by
   rcases (hmem z).1 hz with rfl | ⟨hz,_⟩
   ·exact ⟨n,hm.1,hi.symm,hd.symm⟩
   ·exact ⟨z,hz,rfl,rfl⟩
  have hyb := b.ino y hy
  rw [← hyi,← hye,setG_ne g (p := ⟨kI n.ino,inoW π' n',false⟩) (kID (by omega) hni.2 (by omega) hyb.2 hw).symm]
  exact h.blks y hy w hw
theorem RG.drop_ (h : RG F π g) (b : Bs F) {i : Int} {n : Nd} (hn : nodeM F i = some n) (he : n.ents = []) (hd : n.data = NE) : RG (withoutM F i) π (setG g ⟨kI i,⟨#[]⟩,true⟩) := by
 have hm := node_mem hn
 have hni := b.ino n hm.1
 rw [hm.2] at hni
 refine ⟨fun k hk => ?_,fun z hz => ?_,fun z hz e hez => ?_,fun z hz w hw => ?_⟩
 ·by_cases hq : k = kI i
  ·exact absurd (by rw [hq]; exact setG_same g ⟨kI i,⟨#[]⟩,true⟩) hk
  ·rw [setG_ne g (p := ⟨kI i,⟨#[]⟩,true⟩) hq] at hk
   rcases h.keys k hk with ⟨m,h3,h4⟩ | ⟨m,h3,e,h4,h5⟩ | ⟨m,h3,w,h4,h5,h6⟩
   ·exact .inl ⟨m,mem_wo.2 ⟨h3,fun e => hq (by rw [h4,e])⟩,h4⟩
   ·refine .inr (.inl ⟨m,mem_wo.2 ⟨h3,fun hmi => ?_⟩,e,h4,h5⟩)
    have : m = n := nod_eq b.nod h3 hm.1 (by rw [hmi,hm.2])
    rw [this,he] at h4
    cases h4
   ·refine .inr (.inr ⟨m,mem_wo.2 ⟨h3,fun hmi => ?_⟩,w,h4,h5,h6⟩)
    have : m = n := nod_eq b.nod h3 hm.1 (by rw [hmi,hm.2])
    rw [this,hd,blkG_nil] at h6
    exact h6 rfl
 ·have hz' := mem_wo.1 hz
  have hzi := b.ino z hz'.1
  have hq : kI z.ino ≠ kI i := fun e => hz'.2 (kI_inj (by omega) hzi.2 (by omega) hni.2 e)
  rcases h.inos z hz'.1 with h3 | ⟨h3,h4,h5,h6⟩
  ·left
   rw [setG_ne g (p := ⟨kI i,⟨#[]⟩,true⟩) hq]
   exact h3
  ·right
   exact ⟨h3,h4,h5,by rw [setG_ne g (p := ⟨kI i,⟨#[]⟩,true⟩) (by rw [← h3]; exact hq)]; exact h6⟩
 ·have hz' := mem_wo.1 hz
  have hzi := b.ino z hz'.1
  rw [setG_ne g (p := ⟨kI i,⟨#[]⟩,true⟩) (kIE (by omega) hni.2 (by omega) hzi.2 (b.name z hz'.1 e hez)).symm]
  exact h.ents z hz'.1 e hez
 ·have hz' := mem_wo.1 hz
  have hzi := b.ino z hz'.1
  rw [setG_ne g (p := ⟨kI i,⟨#[]⟩,true⟩) (kID (by omega) hni.2 (by omega) hzi.2 hw).symm]
  exact h.blks z hz'.1 w hw
theorem RG.hang_ (h : RG F π g) (b : Bs F) {d i : Int} {nm : ByteArray} {n : Nd} {p : Pr} (hn : nodeM F d = some n) (hnm : goodN nm) (hp : p.key = kE d nm) (hg : p.gone = decide (i = 0)) (hv : i ≠ 0 → p.value = hangV i) : RG (namedM F d nm i) π (setG g p) := by
 have hm := node_mem hn
 have hni := b.ino n hm.1
 have ho := b.ord n hm.1
 have hmem : ∀ z,z ∈ namedM F d nm i ↔ z = { n with ents := insE nm i (decide (i = 0)) n.ents } ∨ (z ∈ F ∧ z.ino ≠ d) := fun z => by
  rw [named_eq hn,mem_with (n := { n with ents := insE nm i (decide (i = 0)) n.ents }) b.nod hm.1 rfl]
  show _ ∨ (_ ∧ z.ino ≠ n.ino) ↔ _
  rw [hm.2]
 rw [hm.2] at hni
 have hins : ∀ e,e ∈ insE nm i (decide (i = 0)) n.ents ↔ (i ≠ 0 ∧ e = ⟨nm,i⟩) ∨ (e ∈ n.ents ∧ e.name ≠ nm) := fun e => mem_ins ho
 have hI : ∀ j,1 ≤ j → j ≤ 4294967295 → setG g p (kI j) = g (kI j) := fun j h1 h2 => setG_ne g (by rw [hp]; exact kIE (by omega) h2 (by omega) hni.2 hnm)
 refine ⟨fun k hk => ?_,fun z hz => ?_,fun z hz e hez => ?_,fun z hz w hw => ?_⟩
 ·by_cases hq : k = kE d nm
  ·by_cases hi0 : i = 0
   ·exact absurd (by rw [hq,← hp,setG_same,hg,decide_eq_true hi0]; rfl) hk
   ·exact .inr (.inl ⟨_,(hmem _).2 (.inl rfl),⟨nm,i⟩,(hins _).2 (.inl ⟨hi0,rfl⟩),by rw [hq]; show _ = kE n.ino nm; rw [hm.2]⟩)
  ·rw [setG_ne g (by rw [hp]; exact hq)] at hk
   rcases h.keys k hk with ⟨m,h3,h4⟩ | ⟨m,h3,e,h4,h5⟩ | ⟨m,h3,w,h4,h5,h6⟩
   ·by_cases hmd : m.ino = d
    ·exact .inl ⟨_,(hmem _).2 (.inl rfl),by rw [h4,hmd]; show _ = kI n.ino; rw [hm.2]⟩
    ·exact .inl ⟨m,(hmem m).2 (.inr ⟨h3,hmd⟩),h4⟩
   ·by_cases hmd : m.ino = d
    ·have : m = n := nod_eq b.nod h3 hm.1 (by rw [hmd,hm.2])
     subst this
     refine .inr (.inl ⟨_,(hmem _).2 (.inl rfl),e,(hins e).2 (.inr ⟨h4,fun en => hq (by rw [h5,en,hmd])⟩),h5⟩)
    ·exact .inr (.inl ⟨m,(hmem m).2 (.inr ⟨h3,hmd⟩),e,h4,h5⟩)
   ·by_cases hmd : m.ino = d
    ·have : m = n := nod_eq b.nod h3 hm.1 (by rw [hmd,hm.2])
     subst this
     exact .inr (.inr ⟨_,(hmem _).2 (.inl rfl),w,h4,h5,h6⟩)
    ·exact .inr (.inr ⟨m,(hmem m).2 (.inr ⟨h3,hmd⟩),w,h4,h5,h6⟩)
 ·rcases (hmem z).1 hz with rfl | ⟨hz,hzd⟩
  ·have hb := b.ino n hm.1
   show setG g p (kI n.ino) = some (inoW π n) ∨ (n.ino = 1 ∧ n.kind = 2 ∧ n.links = 2 ∧ setG g p (kI 1) = none)
   rw [hI n.ino hb.1 hb.2,hI 1 (by omega) (by omega)]
   exact h.inos n hm.1
  ·have hb := b.ino z hz
   rw [hI z.ino hb.1 hb.2,hI 1 (by omega) (by omega)]
   exact h.inos z hz
 ·rcases (hmem z).1 hz with rfl | ⟨hz,hzd⟩
  ·show setG g p (kE n.ino e.name) = _
   rcases (hins e).1 hez with ⟨h1,rfl⟩ | ⟨h1,h2⟩
   ·rw [hm.2,← hp,setG_same,hg,decide_eq_false h1,hv h1]; rfl
   ·have hb := b.ino n hm.1
    rw [setG_ne g (by rw [hp]; exact fun e1 => h2 (kE_inj (by omega) hb.2 (by omega) hni.2 (b.name n hm.1 e h1) hnm e1).2)]
    exact h.ents n hm.1 e h1
  ·have hb := b.ino z hz
   rw [setG_ne g (by rw [hp]; exact fun e1 => hzd (kE_inj (by omega) hb.2 (by omega) hni.2 (b.name z hz e hez) hnm e1).1)]
   exact h.ents z hz e hez
 ·obtain ⟨y,hy,hyi,hye⟩ : ∃ y ∈ F,y.ino = z.ino ∧ y.data = z.data := by
   rcases (hmem z).1 hz with rfl | ⟨hz,_⟩
   ·exact ⟨n,hm.1,rfl,rfl⟩
   ·exact ⟨z,hz,rfl,rfl⟩
  have hyb := b.ino y hy
  rw [← hyi,← hye,setG_ne g (by rw [hp]; exact (kED (by omega) hni.2 (by omega) hyb.2 hnm hw).symm)]
  exact h.blks y hy w hw
theorem RG.congr {F' : Fs} (h : RG F π g) (hm : ∀ z,z ∈ F' ↔ z ∈ F) : RG F' π g :=
 ⟨fun k hk => by
   rcases h.keys k hk with ⟨n,h1,h2⟩ | ⟨n,h1,e,h2,h3⟩ | ⟨n,h1,w,h2,h3⟩
   ·exact .inl ⟨n,(hm n).2 h1,h2⟩
   ·exact .inr (.inl ⟨n,(hm n).2 h1,e,h2,h3⟩)
   ·exact .inr (.inr ⟨n,(hm n).2 h1,w,h2,h3⟩),fun n hn => h.inos n ((hm n).1 hn),fun n hn => h.ents n ((hm n).1 hn),fun n hn => h.blks n ((hm n).1 hn)⟩
end
end Go.Proofs.YtfalhnomhidkcaaGreatDoor.DirsX
namespace Go.Proofs.YtfalhnomhidkcaaGreatDoor.DirsY
open Byte PackM KeysM TreeM ViewM ViewKm NamesM WalkM WalkF WalkKm DirsM DirsV DirsW DirsX
open NodeM hiding gk
open FileM
def inoL (π : Int → Int) (n : Nd) : Ino := ⟨n.kind,n.links,n.data.size,if n.kind = 2 then π n.ino else 0⟩
structure Fine (π : Int → Int) (n : Nd) : Prop where
 kl : (n.kind = 1 ∧ 1 ≤ n.links ∧ n.links ≤ 1000) ∨ (n.kind = 2 ∧ 2 ≤ n.links ∧ n.links ≤ 4294967295)
 p0 : 0 ≤ π n.ino
 p1 : π n.ino ≤ 4294967295
 d : n.data.size ≤ 4096 ∧ (n.kind = 2 → n.data = NE)
section
variable {F : Fs} {π : Int → Int} {g : Gf} {L : List Pr}
theorem load_put {k l z p : Int} (hm : may k l z p = true) (k0 : 0 ≤ k) (k1 : k ≤ 255) (l0 : 0 ≤ l) (l1 : l ≤ 4294967295) (s0 : 0 ≤ z) (s1 : z ≤ 4294967295) (p0 : 0 ≤ p) (p1 : p ≤ 4294967295) {i : Int} (h : g (kI i) = some (nput k l z p)) : loadG g i = (⟨k,l,z,p⟩,true) := by
 unfold loadG
 rw [h]
 dsimp only
 rw [gok_put k0 k1 l0 l1 s0 s1 p0 p1,if_pos hm]
 show ((⟨NodeM.gk (nput k l z p),gl (nput k l z p),gs (nput k l z p),gp (nput k l z p)⟩ : Ino),true) = _
 rw [NodeM.gk_put k0 k1,gl_put k0 k1 l0 l1,gs_put k0 k1 s0 s1,gp_put k0 k1 p0 p1]
theorem load_at (h : RG F π g) {n : Nd} (hn : n ∈ F) (hf : Fine π n) (h1 : π 1 = 1) : loadG g n.ino = (inoL π n,true) := by
 have hp0 : 0 ≤ (if n.kind = 2 then π n.ino else 0) ∧ (if n.kind = 2 then π n.ino else 0) ≤ 4294967295 := by
  have := hf.p0; have := hf.p1
  split <;> omega
 have hd := hf.d
 have hm : may n.kind n.links n.data.size (if n.kind = 2 then π n.ino else 0) = true := by
  rcases hf.kl with ⟨h2,h3,h4⟩ | ⟨h2,h3,h4⟩
  ·rw [h2,may_file]
   simp
   omega
  ·have h0 : n.data.size = 0 := by rw [hd.2 h2]; rfl
   rw [h2,may_else (by decide),h0]
   simp
   omega
 rcases h.inos n hn with h3 | ⟨h3,h4,h5,h6⟩
 ·exact load_put hm (by rcases hf.kl with h | h <;> omega) (by rcases hf.kl with h | h <;> omega) (by rcases hf.kl with h | h <;> omega) (by rcases hf.kl with h | h <;> omega) (by omega) (by omega) hp0.1 hp0.2 h3
 ·unfold loadG inoL
  rw [h3,h6,h4,h5,h1,hd.2 h4]
  rfl
theorem g_none (h : RG F π g) (b : Bs F) {i : Int} (h1 : 0 ≤ i) (h2 : i ≤ 4294967295) (hi : nodeM F i = none) : g (kI i) = none := by
 cases hg : g (kI i) with
 | none => rfl
 | some v =>
   exfalso
   rcases h.keys (kI i) (by rw [hg]; simp) with ⟨n,h3,h4⟩ | ⟨n,h3,e,h4,h5⟩ | ⟨n,h3,w,h4,h5⟩
   ·have hb := b.ino n h3
    exact node_none hi n h3 (kI_inj h1 h2 (by omega) hb.2 h4).symm
   ·have hb := b.ino n h3
    exact kIE h1 h2 (by omega) hb.2 (b.name n h3 e h4) h5
   ·have hb := b.ino n h3
    exact kID h1 h2 (by omega) hb.2 h4 h5.1
theorem g_noent (h : RG F π g) (b : Bs F) {d : Int} {nm : ByteArray} (h1 : 0 ≤ d) (h2 : d ≤ 4294967295) (hnm : goodN nm) (hi : ∀ n ∈ F,n.ino = d → ∀ e ∈ n.ents,e.name ≠ nm) : g (kE d nm) = none := by
 cases hg : g (kE d nm) with
 | none => rfl
 | some v =>
   exfalso
   rcases h.keys (kE d nm) (by rw [hg]; simp) with ⟨n,h3,h4⟩ | ⟨n,h3,e,h4,h5⟩ | ⟨n,h3,w,h4,h5⟩
   ·have hb := b.ino n h3
    exact kIE (by omega) hb.2 h1 h2 hnm h4.symm
   ·have hb := b.ino n h3
    have h6 := kE_inj h1 h2 (by omega) hb.2 hnm (b.name n h3 e h4) h5
    exact hi n h3 h6.1.symm e h4 h6.2.symm
   ·have hb := b.ino n h3
    exact kED h1 h2 (by omega) hb.2 hnm h4 h5.1
theorem child_at (h : RG F π g) (b : Bs F) (hs : ∀ n ∈ F,∀ e ∈ n.ents,1 ≤ e.ino ∧ e.ino ≤ 4294967295) {n : Nd} (hn : n ∈ F) {nm : ByteArray} (hnm : goodN nm) : childG g n.ino nm = (entryM n nm,decide (entryM n nm ≠ 0)) := by
 have hb := b.ino n hn
 unfold childG
 rcases entry_ways n nm with ⟨e,h1,h2,h3⟩ | ⟨h1,h2⟩
 ·have h4 := hs n hn e h1
  rw [← h2,h.ents n hn e h1]
  dsimp only
  rw [if_pos (hangV_size _),hangV_get (by omega) h4.2,entry_some (b.ord n hn) h1,decide_eq_true (by omega)]
 ·rw [g_noent h b (by omega) hb.2 hnm (fun m hm e => by rw [nod_eq b.nod hm hn e]; exact h1),h2]
  rfl
def inoAt (F : Fs) (π : Int → Int) (i : Int) : Ino := match nodeM F i with
 | some n => inoL π n
 | none => ino0
def spotOf (F : Fs) (π : Int → Int) (s : Spt) : Spot := ⟨s.dir,s.name,s.ino,inoAt F π s.ino⟩
theorem inoAt_some {i : Int} {n : Nd} (h : nodeM F i = some n) : inoAt F π i = inoL π n := by unfold inoAt; rw [h]
theorem inoAt_none {i : Int} (h : nodeM F i = none) : inoAt F π i = ino0 := by unfold inoAt; rw [h]
structure Led (F : Fs) (s : Spt) : Prop where
 way : (s.dir = 0 ∧ s.name = NE ∧ s.ino = 1) ∨ (nameOk s.name = true ∧ ∃ d,nodeM F s.dir = some d ∧ d.kind = 2 ∧ entryM d s.name = s.ino)
 at_ : s.ino = 0 ∨ ∃ n,nodeM F s.ino = some n
structure Sim (F : Fs) (π : Int → Int) (g : Gf) : Prop where
 wf : Wf F π
 rg : RG F π g
 pb : ∀ j,0 ≤ π j ∧ π j ≤ 4294967295
 small : ∀ n ∈ F,n.ents.length ≤ 1000
theorem Sim.bs (h : Sim F π g) : Bs F := .of h.wf
theorem Sim.zero (h : Sim F π g) : nodeM F 0 = none := node_no fun x hx e => by have := (h.wf.ino x hx).1; omega
theorem Sim.fine (h : Sim F π g) {n : Nd} (hn : n ∈ F) : Fine π n := by
 refine ⟨?_,(h.pb _).1,(h.pb _).2,h.wf.data n hn⟩
 rcases h.wf.kind n hn with h1 | h1
 ·have h2 := h.wf.dl n hn h1
  have h3 : subs F n.ents ≤ n.ents.length := List.countP_le_length
  have h4 := h.small n hn
  have h5 : zro n.ino = 0 := rfl
  exact .inr ⟨h1,by omega,by omega⟩
 ·exact .inl ⟨h1.1,h.wf.pos n hn h1.1⟩
theorem Sim.load (h : Sim F π g) {i : Int} {n : Nd} (hn : nodeM F i = some n) : loadG g i = (inoL π n,true) := by
 have h1 := node_mem hn
 rw [← h1.2]
 exact load_at h.rg h1.1 (h.fine h1.1) h.wf.par1
theorem Sim.step (h : Sim F π (DirsX.gk L)) {x : Spot} {n : Nd} (hn : nodeM F x.ino = some n) {nm : ByteArray} (hnm : goodN nm) : stepM L x nm = spotOf F π ⟨x.ino,nm,entryM n nm⟩ ∧ (entryM n nm = 0 ∨ ∃ m,nodeM F (entryM n nm) = some m) := by
 have h1 := node_mem hn
 have hc := child_at h.rg h.bs h.wf.some_ h1.1 hnm
 rw [h1.2] at hc
 unfold stepM
 rw [child_g,hc]
 rcases entry_ways n nm with ⟨e,h2,h3,h4⟩ | ⟨h2,h3⟩
 ·have h5 := h.wf.some_ n h1.1 e h2
  obtain ⟨m,hm⟩ := h.wf.goes n h1.1 e h2 (by omega)
  rw [h4]
  refine ⟨?_,.inr ⟨m,hm⟩⟩
  dsimp only
  rw [load_g,h.load hm,if_pos (by simp; omega)]
  unfold spotOf
  rw [inoAt_some hm]
 ·rw [h3]
  refine ⟨?_,.inl rfl⟩
  dsimp only
  rw [if_neg (by simp)]
  unfold spotOf
  rw [inoAt_none h.zero]
theorem Sim.find_l (h : Sim F π (DirsX.gk L)) : ∀ (l : List ByteArray) {s : Spt},(∀ x ∈ l,nameOk x = true) → Led F s → findL L (spotOf F π s) l = (spotOf F π (fndL F s l).1,(fndL F s l).2) ∧ ((fndL F s l).2 = 0 → Led F (fndL F s l).1)
 | [],s,_,hs => ⟨rfl,fun _ => hs⟩
 | nm :: r,s,hl,hs => by
   have hnm := hl nm (by simp)
   unfold findL fndL
   by_cases h0 : s.ino = 0
   ·rw [if_pos (show (spotOf F π s).ino = 0 from h0),if_pos h0]
    refine ⟨?_,fun h => by cases h⟩
    show (spot0,(10 : Int)) = (spotOf F π spt0,10)
    unfold spotOf
    rw [show spt0.ino = 0 from rfl,inoAt_none h.zero]
    rfl
   ·rw [if_neg (show ¬ (spotOf F π s).ino = 0 from h0),if_neg h0]
    obtain ⟨n,hn⟩ := hs.at_.resolve_left h0
    have hk : (spotOf F π s).node.k = n.kind := by show (inoAt F π s.ino).k = _; rw [inoAt_some hn]; rfl
    rw [hn,hk]
    dsimp only
    by_cases hk2 : n.kind = 2
    ·rw [if_neg (fun h => h hk2),if_neg (fun h => h hk2)]
     have h1 := h.step (x := spotOf F π s) (n := n) hn (good_of hnm)
     rw [h1.1]
     exact h.find_l r (fun x hx => hl x (by simp [hx])) ⟨.inr ⟨hnm,n,hn,hk2,rfl⟩,h1.2⟩
    ·rw [if_pos hk2,if_pos hk2]
     refine ⟨?_,fun h => by cases h⟩
     show (spot0,(12 : Int)) = (spotOf F π spt0,12)
     unfold spotOf
     rw [show spt0.ino = 0 from rfl,inoAt_none h.zero]
     rfl
theorem spl_ok (s : ByteArray) : ∀ x ∈ (spl s).1,nameOk x = true := by
 unfold spl
 split
 ·exact fun x hx => by cases hx
 ·split
  ·exact fun x hx => by cases hx
  ·split
   ·exact fun x hx => by cases hx
   ·split
    ·rename_i h
     rw [Bool.and_eq_true,decide_eq_true_eq] at h
     exact fun x hx => List.all_eq_true.1 h.1 x hx
    ·exact fun x hx => by cases hx
theorem Sim.find (h : Sim F π (DirsX.gk L)) (path : ByteArray) : findM L path = (spotOf F π (fndM F path).1,(fndM F path).2) ∧ ((fndM F path).2 = 0 → Led F (fndM F path).1) := by
 unfold findM fndM
 by_cases hs : (spl path).2 ≠ 0
 ·rw [if_pos hs,if_pos hs]
  refine ⟨?_,fun h => absurd h hs⟩
  show (spot0,(spl path).2) = (spotOf F π spt0,(spl path).2)
  unfold spotOf
  rw [show spt0.ino = 0 from rfl,inoAt_none h.zero]
  rfl
 ·rw [if_neg hs,if_neg hs]
  obtain ⟨r,hr,hk⟩ := h.wf.root
  have h1 : (⟨0,⟨#[]⟩,1,(loadM L 1).1⟩ : Spot) = spotOf F π ⟨0,NE,1⟩ := by
   unfold spotOf
   rw [show (⟨0,NE,1⟩ : Spt).ino = 1 from rfl,inoAt_some hr,load_g,h.load hr]
  rw [h1]
  exact h.find_l _ (spl_ok path) ⟨.inl ⟨rfl,rfl,rfl⟩,.inr ⟨r,hr⟩⟩
theorem kE_txt {d : Int} {a : ByteArray} (h : a.size ≤ 32) : txt (kE d a) = kq 69 d ++ txt a := by
 unfold kE
 rw [if_neg (by omega),txt_append,ks_txt (by decide) (by decide)]
theorem kl_E {d : Int} {a b : ByteArray} (ha : a.size ≤ 32) (hb : b.size ≤ 32) : kl (kE d a) (kE d b) = kl a b := by
 rw [kl_lt,kl_lt,kE_txt ha,kE_txt hb,lt_append _ _ _ _ rfl,lt_irr]
 simp
theorem Sim.list (h : Sim F π (DirsX.gk L)) (hr : Rise L) (hg : ∀ p ∈ L,p.gone = false) {i : Int} {n : Nd} (hn : nodeM F i = some n) : listM i L = n.ents.map (·.name) := by
 have h1 := node_mem hn
 have hi := h.wf.ino n h1.1
 rw [h1.2] at hi
 have hnm : ∀ e ∈ n.ents,goodN e.name := h.bs.name n h1.1
 have hL : L.filter (entB i) = n.ents.map (fun e => ⟨kE i e.name,hangV e.ino,false⟩) := by
  refine rise_ext (List.Pairwise.filter _ hr) ?_ fun p => ?_
  ·unfold Rise
   rw [List.pairwise_map]
   refine List.Pairwise.imp_of_mem (fun {a b} ha hb hab => ?_) (h.wf.ord n h1.1)
   show kl (kE i a.name) (kE i b.name) = true
   rw [kl_E (hnm a ha).2 (hnm b hb).2]
   exact hab
  ·rw [List.mem_filter,List.mem_map]
   constructor
   ·rintro ⟨h2,h3⟩
    unfold entB at h3
    rw [Bool.and_eq_true,decide_eq_true_eq,decide_eq_true_eq] at h3
    have hv : DirsX.gk L p.key = some p.value := by unfold DirsX.gk; rw [get_mem hr h2]; rfl
    rcases h.rg.keys p.key (by rw [hv]; simp) with ⟨m,h4,h5⟩ | ⟨m,h4,e,h5,h6⟩ | ⟨m,h4,w,h5,h6,_⟩
    ·have hm := h.wf.ino m h4
     rw [h5,sp_I _ (by omega) hm.2] at h3
     exact absurd (show (73 : Int) = 69 from h3.1) (by decide)
    ·have hm := h.wf.ino m h4
     have hen := h.bs.name m h4 e h5
     rw [h6,sp_E _ _ (by omega) hm.2 hen.1 hen.2] at h3
     have hmi : m.ino = i := h3.2
     have : m = n := nod_eq h.wf.nod h4 h1.1 (by rw [hmi,h1.2])
     subst this
     refine ⟨e,h5,?_⟩
     have h7 := h.rg.ents m h4 e h5
     rw [← h6,hv] at h7
     injection h7 with h7
     rw [← hmi,← h6,← h7,← hg p h2]
    ·have hm := h.wf.ino m h4
     rw [h6,sp_D _ _ (by omega) hm.2 h5.1 h5.2] at h3
     exact absurd (show (68 : Int) = 69 from h3.1) (by decide)
   ·rintro ⟨e,h2,rfl⟩
    have h3 := h.rg.ents n h1.1 e h2
    rw [h1.2] at h3
    unfold DirsX.gk at h3
    cases hq : getL (kE i e.name) L with
    | none => rw [hq] at h3; cases h3
    | some q =>
      rw [hq] at h3
      injection h3 with h3
      have h4 := (get_iff hr).1 hq
      have h5 := hg q h4.1
      have h6 : q = ⟨kE i e.name,hangV e.ino,false⟩ := by rw [← h4.2,← h3,← h5]
      refine ⟨h6 ▸ h4.1,?_⟩
      unfold entB
      dsimp only
      rw [sp_E _ _ (by omega) hi.2 (hnm e h2).1 (hnm e h2).2]
      simp
 unfold listM
 rw [hL,List.map_map]
 refine List.map_congr_left fun e he => ?_
 show (sp (kE i e.name)).name = e.name
 rw [sp_E _ _ (by omega) hi.2 (hnm e he).1 (hnm e he).2]
theorem Sim.letter (h : Sim F π (DirsX.gk L)) (hr : Rise L) (hd : ∀ n ∈ F,n.data = NE) {p : Pr} (hp : p ∈ L) : (sp p.key).letter = 73 ∨ (sp p.key).letter = 69 := by
 have hv : DirsX.gk L p.key = some p.value := by unfold DirsX.gk; rw [get_mem hr hp]; rfl
 rcases h.rg.keys p.key (by rw [hv]; simp) with ⟨m,h4,h5⟩ | ⟨m,h4,e,h5,h6⟩ | ⟨m,h4,w,h5,h6,h7⟩
 ·have hm := h.wf.ino m h4
  rw [h5,sp_I _ (by omega) hm.2]
  exact .inl rfl
 ·have hm := h.wf.ino m h4
  have hen := h.bs.name m h4 e h5
  rw [h6,sp_E _ _ (by omega) hm.2 hen.1 hen.2]
  exact .inr rfl
 ·rw [hd m h4,blkG_nil] at h7
  exact absurd rfl h7
end
end Go.Proofs.YtfalhnomhidkcaaGreatDoor.DirsY
namespace Go.Proofs.YtfalhnomhidkcaaGreatDoor.DirsS
open Byte PackM KeysM TreeM ViewM ViewKm NamesM WalkM WalkF WalkKm DirsM DirsV DirsW DirsX
open DirsY
open NodeM hiding gk
def tot (F : Fs) : Nat := S F fun n => n.ents.length
structure Ws (F : Fs) (N M K : Nat) : Prop where
 nod : Nod F
 ino : ∀ n ∈ F,1 ≤ n.ino ∧ n.ino ≤ 4294967295
 kind : ∀ n ∈ F,n.kind = 2 ∨ n.kind = 1
 data : ∀ n ∈ F,n.data = NE
 ord : ∀ n ∈ F,Ord n.ents
 name : ∀ n ∈ F,∀ e ∈ n.ents,nameOk e.name = true
 some_ : ∀ n ∈ F,∀ e ∈ n.ents,1 ≤ e.ino ∧ e.ino ≤ 4294967295
 links : ∀ n ∈ F,-(K : Int) ≤ n.links ∧ n.links ≤ K
 len : F.length ≤ N
 tot_ : tot F ≤ M
section
variable {F : Fs} {N M K : Nat}
theorem Ws.bs (h : Ws F N M K) : Bs F := ⟨h.nod,h.ino,h.ord,fun n hn e he => good_of (h.name n hn e he)⟩
theorem Ws.small (h : Ws F N M K) {n : Nd} (hn : n ∈ F) : n.ents.length ≤ M := by
 have := S_le hn (fun n => n.ents.length)
 have := h.tot_
 unfold tot at this
 omega
theorem Ws.fd (h : Ws F N M K) {n : Nd} (hn : n ∈ F) : n.data.size ≤ 4096 ∧ (n.kind = 2 → n.data = NE) := by
 have e := h.data n hn
 exact ⟨by rw [e]; decide,fun _ => e⟩
theorem Ws.more (h : Ws F N M K) {N' M' K' : Nat} (h1 : N ≤ N') (h2 : M ≤ M') (h3 : K ≤ K') : Ws F N' M' K' :=
 ⟨h.nod,h.ino,h.kind,h.data,h.ord,h.name,h.some_,fun n hn => by have := h.links n hn; omega,Nat.le_trans h.len h1,Nat.le_trans h.tot_ h2⟩
theorem len_with (h : Nod F) {n m : Nd} (hm : m ∈ F) (hi : m.ino = n.ino) : (withM F n).length = F.length := by
 obtain ⟨A,B,h1,h2⟩ := with_at h hm hi
 rw [h2,h1]
 simp
theorem Ws.put (h : Ws F N M K) {n m : Nd} {M' K' : Nat} (hm : m ∈ F) (hi : m.ino = n.ino) (h1 : n.kind = m.kind) (h2 : n.data = m.data) (h3 : Ord n.ents) (h4 : ∀ e ∈ n.ents,nameOk e.name = true ∧ 1 ≤ e.ino ∧ e.ino ≤ 4294967295) (h5 : -(K' : Int) ≤ n.links ∧ n.links ≤ K') (hK : K ≤ K') (h6 : n.ents.length + M ≤ m.ents.length + M') : Ws (withM F n) N M' K' := by
 have hmem := fun z => mem_with (x := z) h.nod hm hi
 refine ⟨nod_with h.nod hm hi,fun z hz => ?_,fun z hz => ?_,fun z hz => ?_,fun z hz => ?_,fun z hz e he => ?_,fun z hz e he => ?_,fun z hz => ?_,?_,?_⟩
 ·rcases (hmem z).1 hz with rfl | hz
  ·rw [← hi]; exact h.ino m hm
  ·exact h.ino z hz.1
 ·rcases (hmem z).1 hz with rfl | hz
  ·rw [h1]; exact h.kind m hm
  ·exact h.kind z hz.1
 ·rcases (hmem z).1 hz with rfl | hz
  ·rw [h2]; exact h.data m hm
  ·exact h.data z hz.1
 ·rcases (hmem z).1 hz with rfl | hz
  ·exact h3
  ·exact h.ord z hz.1
 ·rcases (hmem z).1 hz with rfl | hz
  ·exact (h4 e he).1
  ·exact h.name z hz.1 e he
 ·rcases (hmem z).1 hz with rfl | hz
  ·exact (h4 e he).2
  ·exact h.some_ z hz.1 e he
 ·rcases (hmem z).1 hz with rfl | hz
  ·exact h5
  ·have := h.links z hz.1; omega
 ·rw [len_with h.nod hm hi]; exact h.len
 ·have h7 := S_with h.nod hm hi (fun n => n.ents.length)
  have h8 := h.tot_
  unfold tot at h8 ⊢
  omega
theorem Ws.linked (h : Ws F N M K) {i y : Int} {n : Nd} (hn : nodeM F i = some n) (hy : -1 ≤ y ∧ y ≤ 1) : Ws (linkedM F i y) N M (K + 1) := by
 have hm := node_mem hn
 rw [linked_eq hn]
 have h1 := h.links n hm.1
 refine h.put (n := { n with links := n.links + y }) hm.1 rfl rfl rfl (h.ord n hm.1) (fun e he => ⟨h.name n hm.1 e he,h.some_ n hm.1 e he⟩) ?_ (Nat.le_succ _) (Nat.le_refl _)
 show -((K + 1 : Nat) : Int) ≤ n.links + y ∧ n.links + y ≤ ((K + 1 : Nat) : Int)
 omega
theorem len_ins (nm : ByteArray) (i : Int) {l : List En} (h : Ord l) : (insE nm i (decide (i = 0)) l).length ≤ l.length + (if i = 0 then 0 else 1) := by
 have h1 := count_ins h nm i (fun _ => true)
 simp only [List.countP_true] at h1
 by_cases hi : i = 0
 ·rw [if_neg (fun h => h.1 hi)] at h1
  rw [if_pos hi]
  omega
 ·rw [if_pos ⟨hi,trivial⟩] at h1
  rw [if_neg hi]
  omega
theorem Ws.named (h : Ws F N M K) {d i : Int} {nm : ByteArray} {n : Nd} (hn : nodeM F d = some n) (hi : i ≠ 0 → nameOk nm = true ∧ 1 ≤ i ∧ i ≤ 4294967295) : Ws (namedM F d nm i) N (M + if i = 0 then 0 else 1) K := by
 have hm := node_mem hn
 have ho := h.ord n hm.1
 rw [named_eq hn]
 refine h.put (n := { n with ents := insE nm i (decide (i = 0)) n.ents }) hm.1 rfl rfl rfl (ord_ins ho nm i) (fun e he => ?_) (h.links n hm.1) (Nat.le_refl _) ?_
 ·rcases (mem_ins ho).1 he with ⟨h1,rfl⟩ | ⟨h1,_⟩
  ·exact hi h1
  ·exact ⟨h.name n hm.1 e h1,h.some_ n hm.1 e h1⟩
 ·have := len_ins nm i ho
  show (insE nm i (decide (i = 0)) n.ents).length + M ≤ n.ents.length + _
  omega
theorem Ws.wo (h : Ws F N M K) (i : Int) : Ws (withoutM F i) N M K := by
 refine ⟨nod_wo h.nod i,fun z hz => h.ino z (mem_wo.1 hz).1,fun z hz => h.kind z (mem_wo.1 hz).1,fun z hz => h.data z (mem_wo.1 hz).1,fun z hz => h.ord z (mem_wo.1 hz).1,fun z hz => h.name z (mem_wo.1 hz).1,fun z hz => h.some_ z (mem_wo.1 hz).1,fun z hz => h.links z (mem_wo.1 hz).1,Nat.le_trans (List.length_filter_le _ _) h.len,?_⟩
 refine Nat.le_trans ?_ h.tot_
 unfold tot withoutM
 generalize F = l
 induction l with
 | nil => exact Nat.le_refl _
 | cons x r ih =>
   rw [List.filter_cons,S_cons]
   split
   ·rw [S_cons]; omega
   ·omega
theorem new_ino (k i : Int) : (newNd k i).ino = i := by unfold newNd; split <;> rfl
theorem new_ents (k i : Int) : (newNd k i).ents = [] := by unfold newNd; split <;> rfl
theorem new_data (k i : Int) : (newNd k i).data = NE := by unfold newNd; split <;> rfl
theorem Ws.new_ (h : Ws F N M K) {k i : Int} (hi : nodeM F i = none) (h1 : 1 ≤ i) (h2 : i ≤ 4294967295) (hK : 2 ≤ K) : Ws (withM F (newNd k i)) (N + 1) M K := by
 have hne : ∀ x ∈ F,x.ino ≠ (newNd k i).ino := by rw [new_ino]; exact node_none hi
 have hmem := fun z => mem_new (x := z) hne
 have hk : ((newNd k i).kind = 2 ∧ (newNd k i).links = 2) ∨ ((newNd k i).kind = 1 ∧ (newNd k i).links = 1) := by
  unfold newNd
  split
  ·exact .inr ⟨rfl,rfl⟩
  ·exact .inl ⟨rfl,rfl⟩
 have hdata : (newNd k i).data = NE := by unfold newNd; split <;> rfl
 refine ⟨nod_new h.nod hne,fun z hz => ?_,fun z hz => ?_,fun z hz => ?_,fun z hz => ?_,fun z hz e he => ?_,fun z hz e he => ?_,fun z hz => ?_,?_,?_⟩
 ·rcases (hmem z).1 hz with rfl | hz
  ·rw [new_ino]; exact ⟨h1,h2⟩
  ·exact h.ino z hz
 ·rcases (hmem z).1 hz with rfl | hz
  ·rcases hk with h | h
   ·exact .inl h.1
   ·exact .inr h.1
  ·exact h.kind z hz
 ·rcases (hmem z).1 hz with rfl | hz
  ·exact hdata
  ·exact h.data z hz
 ·rcases (hmem z).1 hz with rfl | hz
  ·rw [new_ents]; exact List.Pairwise.nil
  ·exact h.ord z hz
 ·rcases (hmem z).1 hz with rfl | hz
  ·rw [new_ents] at he; cases he
  ·exact h.name z hz e he
 ·rcases (hmem z).1 hz with rfl | hz
  ·rw [new_ents] at he; cases he
  ·exact h.some_ z hz e he
 ·rcases (hmem z).1 hz with rfl | hz
  ·rcases hk with h | h <;> omega
  ·exact h.links z hz
 ·rw [with_new hne,List.length_append]
  have := h.len
  simp
  omega
 ·have h3 := S_new hne (fun n => n.ents.length)
  have h4 := h.tot_
  rw [new_ents] at h3
  simp only [List.length_nil] at h3
  unfold tot at h4 ⊢
  omega
theorem Ws.tight (h : Ws F N M K) {π : Int → Int} (w : Wf F π) (hM : M ≤ 900) : Ws F N M 2000 :=
 ⟨h.nod,h.ino,h.kind,h.data,h.ord,h.name,h.some_,fun n hn => by
   rcases w.kind n hn with h1 | h1
   ·have h2 := w.dl n hn h1
    have h3 : subs F n.ents ≤ n.ents.length := List.countP_le_length
    have h4 := h.small hn
    have h5 : zro n.ino = 0 := rfl
    omega
   ·have := w.pos n hn h1.1
    omega,h.len,h.tot_⟩
end
section
variable {F : Fs} {π : Int → Int} {g : Gf} {L : List Pr}
theorem rg_pi (h : RG F π g) {π' : Int → Int} (hp : ∀ n ∈ F,π' n.ino = π n.ino) : RG F π' g :=
 ⟨h.keys,fun n hn => by
   have e : inoW π' n = inoW π n := by unfold inoW; rw [hp n hn]
   rw [e]
   exact h.inos n hn,h.ents,h.blks⟩
theorem mem_of_node {A B : Fs} (ha : Nod A) (hb : Nod B) (h : ∀ j,nodeM A j = nodeM B j) (z : Nd) : z ∈ A ↔ z ∈ B := by
 constructor
 ·intro hz
  have := node_of ha hz
  rw [h] at this
  exact (node_mem this).1
 ·intro hz
  have := node_of hb hz
  rw [← h] at this
  exact (node_mem this).1
theorem rg_new (h : RG F π (DirsX.gk L)) (b : Bs F) (hr : Rise L) {n : Nd} (hn : nodeM F n.ino = none) (he : n.ents = []) (hd : n.data = NE) (h1 : 1 ≤ n.ino) (h2 : n.ino ≤ 4294967295) {k l z p : Int} (hv : nput k l z p = inoW π n) : RG (withM F n) π (DirsX.gk (doneW L (saveP n.ino k l z p L))) := by
 rw [gk_done hr]
 unfold saveP
 rw [hv]
 exact h.new_ b hn he hd h1 h2
theorem rg_save (h : RG F π (DirsX.gk L)) (b : Bs F) (hr : Rise L) {i y : Int} {n : Nd} (hn : nodeM F i = some n) {k l z p : Int} (hv : nput k l z p = inoW π { n with links := n.links + y }) : RG (linkedM F i y) π (DirsX.gk (doneW L (saveP i k l z p L))) := by
 have hm := node_mem hn
 rw [gk_done hr,linked_eq hn]
 unfold saveP
 rw [hv,← hm.2]
 rw [← hm.2] at hn
 exact h.save_ (n' := { n with links := n.links + y }) b hn rfl rfl rfl (fun j _ => rfl)
theorem rg_tie (h : RG F π (DirsX.gk L)) (b : Bs F) (hr : Rise L) {i y : Int} {n : Nd} (hn : nodeM F i = some n) (hf : Fine π n) (h1 : π 1 = 1) (hl : 0 ≤ n.links + y ∧ n.links + y ≤ 4294967295) : RG (linkedM F i y) π (DirsX.gk (doneW L (tieP i y L))) := by
 have hm := node_mem hn
 have hlo : loadM L i = (inoL π n,true) := by rw [load_g,← hm.2]; exact load_at h hm.1 hf h1
 have e : tieP i y L = saveP i n.kind (n.links + y) n.data.size (if n.kind = 2 then π n.ino else 0) L := by
  unfold tieP saveP
  rw [hlo]
  show (⟨kI i,nput n.kind (u32 (n.links + y)) n.data.size (if n.kind = 2 then π n.ino else 0),false⟩ : Pr) = _
  unfold u32
  rw [Int.emod_eq_of_lt hl.1 (by omega)]
 rw [e]
 exact rg_save h b hr hn rfl
theorem rg_adopt (h : RG F π (DirsX.gk L)) (b : Bs F) (hr : Rise L) {i p : Int} {n : Nd} (hn : nodeM F i = some n) (hk : n.kind = 2) (hf : Fine π n) (h1 : π 1 = 1) : RG F (upd π i p) (DirsX.gk (doneW L (adoptP p i L))) := by
 have hm := node_mem hn
 have hlo : loadM L i = (inoL π n,true) := by rw [load_g,← hm.2]; exact load_at h hm.1 hf h1
 have e : adoptP p i L = ⟨kI n.ino,inoW (upd π i p) n,false⟩ := by
  unfold adoptP inoW
  rw [hlo,if_pos hk,hm.2,upd_same]
  rfl
 rw [gk_done hr,e]
 have hn' := hn
 rw [← hm.2] at hn'
 refine (h.save_ (n' := n) b hn' rfl rfl rfl (fun j hj => by rw [← hm.2]; exact upd_ne _ _ hj)).congr fun z => ?_
 rw [mem_with b.nod hm.1 rfl]
 constructor
 ·intro hz
  by_cases e2 : z.ino = n.ino
  ·exact .inl (nod_eq b.nod hz hm.1 e2)
  ·exact .inr ⟨hz,e2⟩
 ·rintro (rfl | hz)
  ·exact hm.1
  ·exact hz.1
theorem rg_drop (h : RG F π (DirsX.gk L)) (b : Bs F) (hr : Rise L) {i : Int} {n : Nd} (hn : nodeM F i = some n) (he : n.ents = []) (hd : n.data = NE) : RG (withoutM F i) π (DirsX.gk (doneW L (dropP i L))) := by
 rw [gk_done hr]
 exact h.drop_ b hn he hd
theorem rg_hang (h : RG F π (DirsX.gk L)) (b : Bs F) (hr : Rise L) {d i : Int} {nm : ByteArray} {n : Nd} (hn : nodeM F d = some n) (hnm : goodN nm) (hi : i ≠ 0) : RG (namedM F d nm i) π (DirsX.gk (doneW L (hangP d nm i L))) := by
 rw [gk_done hr]
 exact h.hang_ b hn hnm rfl (by rw [decide_eq_false hi]; rfl) (fun _ => rfl)
theorem rg_unhang (h : RG F π (DirsX.gk L)) (b : Bs F) (hr : Rise L) {d : Int} {nm : ByteArray} {n : Nd} (hn : nodeM F d = some n) (hnm : goodN nm) : RG (namedM F d nm 0) π (DirsX.gk (doneW L (unhangP d nm L))) := by
 rw [gk_done hr]
 exact h.hang_ b hn hnm rfl rfl (fun h => absurd rfl h)
theorem rise_out : ∀ (ps : List Wrt) {L : List Pr},Rise L → Rise (outW L ps)
 | [],L,h => h
 | p :: ps,L,h => rise_out ps (rise_done h _)
theorem gone_out : ∀ (ps : List Wrt) {L : List Pr},(∀ p ∈ L,p.gone = false) → ∀ p ∈ outW L ps,p.gone = false
 | [],L,h => h
 | p :: ps,L,h => gone_out ps (gone_done h _)
theorem out_app : ∀ (ps qs : List Wrt) (L : List Pr),outW L (ps ++ qs) = outW (outW L ps) qs
 | [],qs,L => rfl
 | p :: ps,qs,L => out_app ps qs _
theorem _root_.Go.Proofs.YtfalhnomhidkcaaGreatDoor.DirsW.Wd.eq_on {δ ε δ' ε' : Int → Int} {x : Int} (h : Wd F π δ ε x) (h1 : ∀ m ∈ F,δ m.ino = δ' m.ino) (h2 : ∀ m ∈ F,m.kind = 2 → ε m.ino = ε' m.ino) : Wd F π δ' ε' x :=
 { h with cnt := fun m hm => by rw [← h1 m hm]; exact h.cnt m hm,dl := fun m hm hk => by rw [← h2 m hm hk]; exact h.dl m hm hk }
end
end Go.Proofs.YtfalhnomhidkcaaGreatDoor.DirsS
namespace Go.Proofs.YtfalhnomhidkcaaGreatDoor.DirsZ
open Byte PackM KeysM TreeM ViewM ViewKm NamesM WalkM WalkF WalkKm DirsM DirsV DirsW DirsX DirsY DirsS
open NodeM hiding gk
structure St (F : Fs) (π : Int → Int) (L : List Pr) (k : Nat) : Prop where
 sim : Sim F π (DirsX.gk L)
 ws : Ws F (k + 1) k 2000
 hk : k ≤ 900
 rise : Rise L
 gone : ∀ p ∈ L,p.gone = false
structure Did (L : List Pr) (V : Int × List Wrt) (M : Int × Fs) (k : Nat) : Prop where
 er : V.1 = M.1
 st : ∃ π',St M.2 π' (outW L V.2) k
 no : V.1 ≠ 0 → V.2 = []
section
variable {F : Fs} {π : Int → Int} {L : List Pr} {k : Nat}
theorem St.of {F : Fs} {π : Int → Int} {L : List Pr} {k N M K : Nat} (wf : Wf F π) (rg : RG F π (DirsX.gk L)) (pb : ∀ j,0 ≤ π j ∧ π j ≤ 4294967295) (ws : Ws F N M K) (h1 : N ≤ k + 1) (h2 : M ≤ k) (hk : k ≤ 900) (hr : Rise L) (hg : ∀ p ∈ L,p.gone = false) : St F π L k := by
 have w := (ws.tight wf (by omega)).more h1 h2 (Nat.le_refl _)
 exact ⟨⟨wf,rg,pb,fun n hn => by have := w.small hn; omega⟩,w,hk,hr,hg⟩
theorem St.more (h : St F π L k) {k' : Nat} (h1 : k ≤ k') (h2 : k' ≤ 900) : St F π L k' := ⟨h.sim,h.ws.more (by omega) h1 (Nat.le_refl _),h2,h.rise,h.gone⟩
theorem Did.err (h : St F π L k) (hk : k + 1 ≤ 900) {e : Int} : Did L (e,[]) (e,F) (k + 1) := ⟨rfl,⟨π,h.more (Nat.le_succ _) hk⟩,fun _ => rfl⟩
def Eqv (A B : Fs) : Prop := ∀ j,nodeM A j = nodeM B j
theorem Eqv.mem {A B : Fs} (h : Eqv A B) (ha : Nod A) (hb : Nod B) (z : Nd) : z ∈ A ↔ z ∈ B := mem_of_node ha hb h z
theorem rg_eqv {A B : Fs} {g : Gf} (h : RG A π g) (e : Eqv A B) (ha : Nod A) (hb : Nod B) : RG B π g := h.congr fun z => (e.mem ha hb z).symm
theorem named_at {A : Fs} (h : Nod A) {d e i : Int} {nm : ByteArray} {n m : Nd} (hd : nodeM A d = some n) (hm : nodeM A e = some m) : ∃ m',nodeM (namedM A d nm i) e = some m' ∧ m'.kind = m.kind ∧ m'.links = m.links ∧ m'.ino = m.ino ∧ (e ≠ d → m' = m) ∧ (e = d → m'.ents = insE nm i (decide (i = 0)) m.ents) := by
 rw [node_named h hd]
 by_cases he : e = d
 ·rw [if_pos he]
  subst he
  rw [hd] at hm
  injection hm with hm
  subst hm
  exact ⟨_,rfl,rfl,rfl,rfl,fun h => absurd rfl h,fun _ => rfl⟩
 ·rw [if_neg he]
  exact ⟨m,hm,rfl,rfl,rfl,fun _ => rfl,fun h => absurd h he⟩
theorem linked_at {A : Fs} (h : Nod A) {d e y : Int} {n m : Nd} (hd : nodeM A d = some n) (hm : nodeM A e = some m) : ∃ m',nodeM (linkedM A d y) e = some m' ∧ m'.kind = m.kind ∧ m'.links = (if e = d then m.links + y else m.links) ∧ m'.ino = m.ino ∧ m'.ents = m.ents := by
 rw [node_linked h hd]
 by_cases he : e = d
 ·rw [if_pos he,if_pos he]
  subst he
  rw [hd] at hm
  injection hm with hm
  subst hm
  exact ⟨_,rfl,rfl,rfl,rfl,rfl⟩
 ·rw [if_neg he,if_neg he]
  exact ⟨m,hm,rfl,rfl,rfl,rfl⟩
theorem wo_at {A : Fs} (h : Nod A) {c e : Int} {m : Nd} (hm : nodeM A e = some m) (hc : e ≠ c) : nodeM (withoutM A c) e = some m := by rw [node_wo h,if_neg hc]; exact hm
theorem eqv_ln {A : Fs} (h : Nod A) {d e i y : Int} {nm : ByteArray} {n m : Nd} (hd : nodeM A d = some n) (he : nodeM A e = some m) : Eqv (linkedM (namedM A d nm i) e y) (namedM (linkedM A e y) d nm i) := fun j => by
 have h1 := nod_named (i := i) (nm := nm) h hd
 have h2 := nod_linked (by_ := y) h he
 by_cases hde : d = e
 ·subst hde
  rw [hd] at he
  injection he with he
  subst he
  have a1 : nodeM (namedM A d nm i) d = some { n with ents := insE nm i (decide (i = 0)) n.ents } := by rw [node_named h hd,if_pos rfl]
  have a2 : nodeM (linkedM A d y) d = some { n with links := n.links + y } := by rw [node_linked h hd,if_pos rfl]
  rw [node_linked h1 a1,node_named h2 a2,node_named h hd,node_linked h hd]
  by_cases hj : j = d
  ·rw [if_pos hj,if_pos hj]
  ·rw [if_neg hj,if_neg hj,if_neg hj,if_neg hj]
 ·have a1 : nodeM (namedM A d nm i) e = some m := by rw [node_named h hd,if_neg (fun x => hde x.symm)]; exact he
  have a2 : nodeM (linkedM A e y) d = some n := by rw [node_linked h he,if_neg hde]; exact hd
  rw [node_linked h1 a1,node_named h2 a2,node_named h hd,node_linked h he]
  by_cases hj : j = d
  ·rw [if_pos hj,if_pos hj,if_neg (fun x => hde (by rw [← hj,x]))]
  ·rw [if_neg hj,if_neg hj]
theorem eqv_wn {A : Fs} (h : Nod A) {c d i : Int} {nm : ByteArray} {n : Nd} (hd : nodeM A d = some n) (hc : d ≠ c) : Eqv (withoutM (namedM A d nm i) c) (namedM (withoutM A c) d nm i) := fun j => by
 have h1 := nod_named (i := i) (nm := nm) h hd
 rw [node_wo h1,node_named (nod_wo h c) (wo_at h hd hc),node_named h hd,node_wo h]
 by_cases hj : j = c
 ·rw [if_pos hj,if_neg (fun x => hc (by rw [← x,hj])),if_pos hj]
 ·rw [if_neg hj,if_neg hj]
theorem eqv_link {A B : Fs} (ha : Nod A) (hb : Nod B) (e : Eqv A B) {i y : Int} {n : Nd} (hn : nodeM A i = some n) : Eqv (linkedM A i y) (linkedM B i y) := fun j => by
 rw [node_linked ha hn,node_linked hb (by rw [← e]; exact hn),e]
theorem eqv_back {A : Fs} (h : Nod A) {d : Int} {n : Nd} (hd : nodeM A d = some n) : Eqv (linkedM (linkedM A d (-1)) d 1) A := fun j => by
 have a1 : nodeM (linkedM A d (-1)) d = some { n with links := n.links + -1 } := by rw [node_linked h hd,if_pos rfl]
 rw [node_linked (nod_linked h hd) a1,node_linked h hd]
 by_cases hj : j = d
 ·rw [if_pos hj,hj,hd]
  have e : n.links + -1 + 1 = n.links := by omega
  show some (⟨n.ino,n.kind,n.links + -1 + 1,n.data,n.ents⟩ : Nd) = _
  rw [e]
 ·rw [if_neg hj,if_neg hj]
theorem no_entry (h : St F π L k) {d : Int} {n : Nd} (hn : nodeM F d = some n) {nm : ByteArray} (h0 : entryM n nm = 0) : ∀ e ∈ n.ents,e.name ≠ nm := fun e he en => by
 have h1 := node_mem hn
 have h2 := entry_some (h.ws.ord n h1.1) he
 rw [en,h0] at h2
 have := (h.ws.some_ n h1.1 e he).1
 omega
structure Sit (F : Fs) (s : Spt) (d n : Nd) (e : En) : Prop where
 dir : nodeM F s.dir = some d
 dk : d.kind = 2
 nm : nameOk s.name = true
 me : e ∈ d.ents
 en : e.name = s.name
 ei : e.ino = s.ino
 node : nodeM F s.ino = some n
 i0 : 1 ≤ s.ino
 i1 : s.ino ≤ 4294967295
 i2 : s.ino ≠ 1
theorem sit_of (h : St F π L k) {s : Spt} (hl : Led F s) (h0 : s.ino ≠ 0) (h1 : s.ino ≠ 1) : ∃ d n e,Sit F s d n e := by
 rcases hl.way with ⟨_,_,h2⟩ | ⟨h2,d,h3,h4,h5⟩
 ·exact absurd h2 h1
 ·obtain ⟨n,hn⟩ := hl.at_.resolve_left h0
  have hm := node_mem h3
  rcases entry_ways d s.name with ⟨e,h6,h7,h8⟩ | ⟨_,h8⟩
  ·have h9 := h.ws.some_ d hm.1 e h6
   rw [← h8,h5] at h9
   exact ⟨d,n,e,h3,h4,h2,h6,h7,by rw [← h8,h5],hn,h9.1,h9.2,h1⟩
  ·rw [h5] at h8
   exact absurd h8 h0
theorem spot_k (h : St F π L k) {s : Spt} {n : Nd} (hn : nodeM F s.ino = some n) : (spotOf F π s).node = inoL π n := by
 unfold spotOf
 exact inoAt_some hn
theorem make_did (h : St F π L k) (hk : k + 1 ≤ 900) (path : ByteArray) {kind ino : Int} (h1 : 2 ≤ ino) (h2 : ino ≤ 4294967295) (hi : nodeM F ino = none) : Did L (makV L path kind ino) (makeM F path kind ino) (k + 1) := by
 obtain ⟨hf,hled⟩ := h.sim.find path
 unfold makV makeM
 rw [hf]
 obtain ⟨⟨s,er⟩,hR⟩ : ∃ R,fndM F path = R := ⟨_,rfl⟩
 rw [hR] at hled ⊢
 dsimp only at hled ⊢
 by_cases he : er ≠ 0
 ·rw [if_pos he,if_pos he]; exact Did.err h hk
 rw [if_neg he,if_neg he]
 have hsi : (spotOf F π s).ino = s.ino := rfl
 have hsd : (spotOf F π s).dir = s.dir := rfl
 have hsn : (spotOf F π s).name = s.name := rfl
 rw [hsi,hsd,hsn]
 by_cases h0 : s.ino ≠ 0
 ·rw [if_pos h0,if_pos h0]; exact Did.err h hk
 rw [if_neg h0,if_neg h0]
 have h00 : s.ino = 0 := by omega
 have led := hled (by omega)
 obtain ⟨hnm,d,hd,hdk,hde⟩ := led.way.resolve_left (fun h => by omega)
 rw [h00] at hde
 have hno := no_entry h hd hde
 have hdm := node_mem hd
 have hdi := h.ws.ino d hdm.1
 rw [hdm.2] at hdi
 have hdne : s.dir ≠ ino := fun e => by rw [e,hi] at hd; cases hd
 have hi' : nodeM F (newNd kind ino).ino = none := by rw [new_ino]; exact hi
 have w1 := h.sim.wf.new_ (k := kind) hi (by omega) h1 h2
 have s1 := h.ws.new_ (k := kind) hi (by omega) h2 (by omega)
 have hN1 := fun j => node_new h.ws.nod hi' j
 have hd1 : nodeM (withM F (newNd kind ino)) s.dir = some d := by rw [hN1,new_ino,if_neg hdne]; exact hd
 have hn1 : nodeM (withM F (newNd kind ino)) ino = some (newNd kind ino) := by rw [hN1,new_ino,if_pos rfl]
 have hino0 : ino ≠ 0 := by omega
 by_cases hk1 : kind = 1
 ·subst hk1
  rw [if_pos rfl]
  have e1 : makeAt F s 1 ino = namedM (withM F (newNd 1 ino)) s.dir s.name ino := rfl
  rw [e1]
  refine ⟨rfl,⟨π,?_⟩,fun h => absurd rfl h⟩
  have w2 := w1.ins hd1 hdk hno hnm (by omega) h2 hn1 (.inl ⟨by show (1 : Int) ≠ 2; decide,rfl⟩)
  have w3 := w2.eq (δ' := zro) (ε' := zro) (fun j => by
   unfold upd zro
   by_cases hj : j = ino
   ·rw [if_pos hj,if_pos rfl]; rfl
   ·rw [if_neg hj,if_neg hj]) (fun j => by
   rw [if_neg (show ¬ (newNd 1 ino).kind = 2 by show ¬ (1 : Int) = 2; decide)]
   unfold upd zro
   split <;> rfl)
  have r1 := rg_new (n := newNd 1 ino) h.sim.rg h.ws.bs h.rise hi' (new_ents _ _) (new_data _ _) (by rw [new_ino]; omega) (by rw [new_ino]; exact h2) (k := 1) (l := 1) (z := 0) (p := 0) rfl
  rw [new_ino] at r1
  have r2 := rg_hang r1 s1.bs (rise_done h.rise _) hd1 (good_of hnm) hino0
  exact St.of w3 r2 h.sim.pb (s1.named (i := ino) hd1 (fun _ => ⟨hnm,by omega,h2⟩)) (by omega) (by rw [if_neg hino0]; omega) hk (rise_out _ h.rise) (gone_out _ h.gone)
 ·rw [if_neg hk1]
  have e1 : makeAt F s kind ino = namedM (linkedM (withM F (newNd kind ino)) s.dir 1) s.dir s.name ino := by
   unfold makeAt newNd
   rw [if_neg hk1,if_neg hk1]
  have e2 : newNd kind ino = ⟨ino,2,2,NE,[]⟩ := if_neg hk1
  rw [e1]
  refine ⟨rfl,⟨upd π ino s.dir,?_⟩,fun h => absurd rfl h⟩
  have hpb : ∀ j,0 ≤ upd π ino s.dir j ∧ upd π ino s.dir j ≤ 4294967295 := fun j => by
   have := h.sim.pb j
   unfold upd
   split <;> omega
  have w2 := w1.link (y := 1) hd1 (fun hq => by omega) (fun hq => by omega)
  rw [if_pos hdk,if_pos hdk] at w2
  have s2 := s1.linked (y := 1) hd1 (by omega)
  obtain ⟨d2,hd2,k2,l2,i2,en2⟩ := linked_at (y := 1) s1.nod hd1 hd1
  obtain ⟨n2,hn2,kn2,_,_,_⟩ := linked_at (y := 1) s1.nod hd1 hn1
  have hnk : n2.kind = 2 := by rw [kn2,e2]
  have hex := h.sim.wf.ex_none hi (by omega)
  have w3 := w2.ins (π' := upd π ino s.dir) hd2 (by rw [k2]; exact hdk) (by rw [en2]; exact hno) hnm (by omega) h2 hn2 (.inr ⟨hnk,by omega,rfl,fun z hz y hy hyi => by
   have hz1 := node_of s2.nod hz
   rw [node_linked s1.nod hd1] at hz1
   by_cases hzd : z.ino = s.dir
   ·rw [if_pos hzd] at hz1
    injection hz1 with hz1
    rw [← hz1] at hy
    exact hex d hdm.1 y hy hyi
   ·rw [if_neg hzd,hN1,new_ino] at hz1
    by_cases hzi : z.ino = ino
    ·rw [if_pos hzi] at hz1
     injection hz1 with hz1
     rw [← hz1,new_ents] at hy
     cases hy
    ·rw [if_neg hzi] at hz1
     exact hex z (node_mem hz1).1 y hy hyi⟩)
  have w4 := w3.eq (δ' := zro) (ε' := zro) (fun j => by
   unfold upd zro
   by_cases hj : j = ino
   ·rw [if_pos hj,if_pos rfl]; rfl
   ·rw [if_neg hj,if_neg hj]) (fun j => by
   rw [if_pos hnk]
   unfold upd zro
   by_cases hj : j = s.dir
   ·rw [if_pos hj,if_pos rfl,if_neg hdne]; rfl
   ·rw [if_neg hj,if_neg hj]; split <;> rfl)
  have r0 : RG F (upd π ino s.dir) (DirsX.gk L) := rg_pi h.sim.rg fun n hn => upd_ne _ _ (node_none hi n hn)
  have r1 := rg_new (n := newNd kind ino) r0 h.ws.bs h.rise hi' (new_ents _ _) (new_data _ _) (by rw [new_ino]; omega) (by rw [new_ino]; exact h2) (k := 2) (l := 2) (z := 0) (p := s.dir) (by
   rw [e2]
   unfold inoW
   dsimp only
   rw [if_pos rfl,upd_same]
   rfl)
  rw [new_ino] at r1
  have hr1 := rise_done h.rise (saveP ino 2 2 0 s.dir L)
  have r2 := rg_hang r1 s1.bs hr1 hd1 (good_of hnm) hino0
  have hr2 := rise_done hr1 (hangP s.dir s.name ino (doneW L (saveP ino 2 2 0 s.dir L)))
  have s3 := s1.named (i := ino) (nm := s.name) hd1 (fun _ => ⟨hnm,by omega,h2⟩)
  obtain ⟨d3,hd3,k3,l3,i3,_,_⟩ := named_at (i := ino) (nm := s.name) s1.nod hd1 hd1
  have hfd := h.sim.fine hdm.1
  have hfk := hfd.kl.resolve_left (fun h => by omega)
  have hdl : d.links ≤ 2000 := (h.ws.links d hdm.1).2
  have r3 := rg_tie (y := 1) r2 s3.bs hr2 hd3 ⟨.inr ⟨by rw [k3]; exact hdk,by rw [l3]; omega,by rw [l3]; omega⟩,(hpb _).1,(hpb _).2,s3.fd (node_mem hd3).1⟩ (by rw [upd_ne _ _ (show (1 : Int) ≠ ino by omega)]; exact h.sim.wf.par1) (by rw [l3]; omega)
  have s4 := s2.named (i := ino) (nm := s.name) hd2 (fun _ => ⟨hnm,by omega,h2⟩)
  have r4 := rg_eqv r3 (eqv_ln s1.nod hd1 hd1) (s3.linked hd3 (by omega)).nod s4.nod
  exact St.of w4 r4 hpb s4 (by omega) (by rw [if_neg hino0]; omega) hk (rise_out _ h.rise) (gone_out _ h.gone)
end
end Go.Proofs.YtfalhnomhidkcaaGreatDoor.DirsZ
namespace Go.Proofs.YtfalhnomhidkcaaGreatDoor.DirsZa
open Byte PackM KeysM TreeM ViewM ViewKm NamesM WalkM WalkF WalkKm DirsM DirsV DirsW DirsX DirsY DirsS DirsZ
open NodeM hiding gk
def Kept (F F2 : Fs) (t : Spt) : Prop := ∀ j n,nodeM F j = some n → j ≠ t.ino → ∃ n',nodeM F2 j = some n' ∧ n'.kind = n.kind ∧ ∀ e,e ∈ n'.ents ↔ e ∈ n.ents ∧ ¬ (j = t.dir ∧ e.name = t.name)
theorem kept_named {F A : Fs} {t : Spt} {d : Nd} {N M K : Nat} (ws : Ws A N M K) (hd : nodeM A t.dir = some d) (h : ∀ j n,nodeM F j = some n → j ≠ t.ino → ∃ n',nodeM A j = some n' ∧ n'.kind = n.kind ∧ n'.ents = n.ents) : Kept F (namedM A t.dir t.name 0) t := fun j n hn hj => by
 obtain ⟨n1,h1,h2,h3⟩ := h j n hn hj
 obtain ⟨n2,h4,h5,_,_,h6,h7⟩ := named_at (i := 0) (nm := t.name) ws.nod hd h1
 refine ⟨n2,h4,by rw [h5,h2],fun e => ?_⟩
 by_cases hjd : j = t.dir
 ·rw [h7 hjd,h3,mem_ins (by rw [← h3]; exact ws.ord n1 (node_mem h1).1)]
  constructor
  ·rintro (⟨h8,_⟩ | ⟨h8,h9⟩)
   ·exact absurd rfl h8
   ·exact ⟨h8,fun h => h9 h.2⟩
  ·rintro ⟨h8,h9⟩
   exact .inr ⟨h8,fun h => h9 ⟨hjd,h⟩⟩
 ·rw [h6 hjd,h3]
  exact ⟨fun h => ⟨h,fun h => hjd h.1⟩,fun h => h.1⟩
theorem eqv_trans {A B C : Fs} (h : Eqv A B) (k : Eqv B C) : Eqv A C := fun j => (h j).trans (k j)
structure Clr (F : Fs) (π : Int → Int) (L : List Pr) (k : Nat) (s : Spt) (n : Nd) (V : Int × List Wrt) (M : Int × Fs) : Prop where
 er : V.1 = M.1
 no : V.1 ≠ 0 → V.2 = [] ∧ M.2 = F
 yes : V.1 = 0 → St M.2 π (outW L V.2) k ∧ Kept F M.2 s ∧ n.ents = []
section
variable {F : Fs} {π : Int → Int} {L : List Pr} {k : Nat}
theorem ne_dir {s : Spt} {d n : Nd} {e : En} (hs : Sit F s d n e) (h : n.ents = []) : s.ino ≠ s.dir := fun q => by
 have h1 := hs.node
 rw [q,hs.dir] at h1
 injection h1 with h1
 have h2 := hs.me
 rw [h1,h] at h2
 cases h2
theorem no_more {A : Fs} {i : Int} (h : cnt A i = 0) : ∀ z ∈ A,∀ y ∈ z.ents,y.ino ≠ i := fun z hz y hy hyi => by
 have := cnt_pos.2 ⟨z,hz,y,hy,hyi⟩
 omega
theorem rem_clr (h : St F π L k) {s : Spt} {d n : Nd} {e : En} (hs : Sit F s d n e) : Clr F π L k s n (remV L (spotOf F π s)) (removeAt F s) := by
 have hx := spot_k h hs.node
 have hli : listM (spotOf F π s).ino L = n.ents.map (·.name) := h.sim.list h.rise h.gone hs.node
 have hnm := node_mem hs.node
 have hdm := node_mem hs.dir
 unfold remV removeAt
 rw [hs.node,hx,hli]
 dsimp only
 rw [show (inoL π n).k = n.kind from rfl,List.length_map]
 by_cases hk2 : n.kind ≠ 2
 ·rw [if_pos hk2,if_pos hk2]; exact ⟨rfl,fun _ => ⟨rfl,rfl⟩,fun h => by cases h⟩
 rw [if_neg hk2,if_neg hk2]
 by_cases hl : n.ents.length ≠ 0
 ·rw [if_pos hl,if_pos hl]; exact ⟨rfl,fun _ => ⟨rfl,rfl⟩,fun h => by cases h⟩
 rw [if_neg hl,if_neg hl]
 have hk : n.kind = 2 := by omega
 have he : n.ents = [] := List.length_eq_zero_iff.1 (by omega)
 have hne := ne_dir hs he
 refine ⟨rfl,fun h => absurd rfl h,fun _ => ?_⟩
 show St (namedM (linkedM (withoutM F s.ino) s.dir (-1)) s.dir s.name 0) π (outW L [unhangP s.dir s.name,dropP s.ino,tieP s.dir (-1)]) k ∧ _
 have r1 := rg_unhang h.sim.rg h.ws.bs h.rise hs.dir (good_of hs.nm)
 have s1 := h.ws.named (i := 0) (nm := s.name) hs.dir (fun h => absurd rfl h)
 have hr1 := rise_done h.rise (unhangP s.dir s.name L)
 obtain ⟨n1,hn1,_,_,_,en1,_⟩ := named_at (i := 0) (nm := s.name) h.ws.nod hs.dir hs.node
 have r2 := rg_drop r1 s1.bs hr1 hn1 (by rw [en1 hne]; exact he) (s1.data _ (node_mem hn1).1)
 have s2 := s1.wo s.ino
 have hr2 := rise_done hr1 (dropP s.ino (doneW L (unhangP s.dir s.name L)))
 obtain ⟨d1,hd1,kd1,ld1,id1,_,_⟩ := named_at (i := 0) (nm := s.name) h.ws.nod hs.dir hs.dir
 have hd2 := wo_at s1.nod hd1 (fun q => hne q.symm)
 have hfk := (h.sim.fine hdm.1).kl.resolve_left (fun h => by have := hs.dk; omega)
 have hdl : d.links ≤ 2000 := (h.ws.links d hdm.1).2
 have r3 := rg_tie (y := -1) r2 s2.bs hr2 hd2 ⟨.inr ⟨by rw [kd1]; exact hs.dk,by rw [ld1]; omega,by rw [ld1]; omega⟩,(h.sim.pb _).1,(h.sim.pb _).2,s2.fd (node_mem hd2).1⟩ h.sim.wf.par1 (by rw [ld1]; omega)
 have t1 := h.ws.wo s.ino
 have hdw := wo_at h.ws.nod hs.dir (fun q => hne q.symm)
 have t2 := t1.linked (y := -1) hdw (by omega)
 obtain ⟨d2,hdd2,kd2,ld2,id2,ed2⟩ := linked_at (y := -1) t1.nod hdw hdw
 have t3 := t2.named (i := 0) (nm := s.name) hdd2 (fun h => absurd rfl h)
 have u1 := (t1.named (i := 0) (nm := s.name) hdw (fun h => absurd rfl h)).nod
 have r4 := rg_eqv r3 (eqv_trans (eqv_link s2.nod u1 (eqv_wn h.ws.nod hs.dir (fun q => hne q.symm)) hd2) (eqv_ln t1.nod hdw hdw)) (s2.linked hd2 (by omega)).nod t3.nod
 have hc : cnt F s.ino = 1 := by
  have h1 := h.sim.wf.cnt n hnm.1
  unfold wantC at h1
  have h2 := hs.i2
  rw [hnm.2,if_neg h2,if_pos hk] at h1
  have h3 : zro s.ino = 0 := rfl
  omega
 have v1 := h.sim.wf.drop hs.dir hs.me hs.ei hs.node he hs.i2 hc
 rw [if_pos hk] at v1
 have v2 := v1.link (y := -1) hdw (fun q => by have := hs.dk; omega) (fun q => by have := hs.dk; omega)
 rw [if_pos hs.dk,if_pos hs.dk] at v2
 have v3 := v2.del (e := e) hdd2 (by rw [kd2]; exact hs.dk) (by rw [ed2]; exact hs.me)
 have hi2 : nodeM (linkedM (withoutM F s.ino) s.dir (-1)) s.ino = none := by
  rw [node_linked t1.nod hdw,if_neg hne,node_wo h.ws.nod,if_pos rfl]
 rw [hs.en,hs.ei,dir_none hi2,if_neg (by decide)] at v3
 have hi3 : nodeM (namedM (linkedM (withoutM F s.ino) s.dir (-1)) s.dir s.name 0) s.ino = none := by
  rw [node_named t2.nod hdd2,if_neg hne]; exact hi2
 have hc3 : cnt (namedM (linkedM (withoutM F s.ino) s.dir (-1)) s.dir s.name 0) s.ino = 0 := by
  have h1 := cnt_named (i := 0) (nm := s.name) t2.nod hdd2 (t2.ord d2 (node_mem hdd2).1) s.ino
  rw [cnt_linked t1.nod hdw,cnt_wo h.ws.nod hs.node he,hc,← hs.en,old_some (t2.ord d2 (node_mem hdd2).1) (by rw [ed2]; exact hs.me),if_pos hs.ei,hs.en] at h1
  simp at h1
  exact h1
 have v4 := (v3.clean (no_more hc3)).eq_on (δ' := zro) (ε' := zro) (fun m hm => by
  unfold upd zro
  rw [if_neg (node_none hi3 m hm)]) (fun m hm _ => by
  unfold upd zro
  split
  ·rw [if_pos rfl]; rfl
  ·rfl)
 refine ⟨St.of v4 r4 h.sim.pb t3 (Nat.le_refl _) (by rw [if_pos rfl]; omega) h.hk (rise_out _ h.rise) (gone_out _ h.gone),kept_named t2 hdd2 fun j m hm hj => ?_,he⟩
 obtain ⟨m',h1,h2,_,_,h3⟩ := linked_at (y := -1) t1.nod hdw (wo_at h.ws.nod hm hj)
 exact ⟨m',h1,h2,h3⟩
theorem unl_clr (h : St F π L k) {s : Spt} {d n : Nd} {e : En} (hs : Sit F s d n e) : Clr F π L k s n (unlV (spotOf F π s)) (unlinkAt F s) := by
 have hx := spot_k h hs.node
 have hnm := node_mem hs.node
 have hdm := node_mem hs.dir
 unfold unlV unlinkAt
 rw [hs.node,hx]
 dsimp only
 rw [show (inoL π n).k = n.kind from rfl,show (inoL π n).l = n.links from rfl]
 rcases h.sim.wf.kind n hnm.1 with hk2 | ⟨hk1,he⟩
 ·rw [if_pos (show n.kind ≠ 1 by omega),if_pos hk2]; exact ⟨rfl,fun _ => ⟨rfl,rfl⟩,fun h => by cases h⟩
 rw [if_neg (show ¬ n.kind ≠ 1 by omega),if_neg (show ¬ n.kind = 2 by omega)]
 have hne := ne_dir hs he
 have hp := h.sim.wf.pos n hnm.1 hk1
 have r1 := rg_unhang h.sim.rg h.ws.bs h.rise hs.dir (good_of hs.nm)
 have s1 := h.ws.named (i := 0) (nm := s.name) hs.dir (fun h => absurd rfl h)
 have hr1 := rise_done h.rise (unhangP s.dir s.name L)
 obtain ⟨n1,hn1,_,_,_,en1,_⟩ := named_at (i := 0) (nm := s.name) h.ws.nod hs.dir hs.node
 have en1 := en1 hne
 subst en1
 have hcw : cnt F s.ino = n1.links := by
  have h1 := h.sim.wf.cnt n1 hnm.1
  unfold wantC at h1
  have h2 := hs.i2
  rw [hnm.2,if_neg h2,if_neg (show ¬ n1.kind = 2 by omega)] at h1
  have h3 : zro s.ino = 0 := rfl
  omega
 by_cases hl : 1 < n1.links
 ·rw [if_pos hl,if_neg (show ¬ n1.links = 1 by omega)]
  refine ⟨rfl,fun h => absurd rfl h,fun _ => ?_⟩
  show St (namedM (linkedM F s.ino (-1)) s.dir s.name 0) π (outW L [unhangP s.dir s.name,saveP s.ino n1.kind (n1.links - 1) n1.data.size (if n1.kind = 2 then π n1.ino else 0)]) k ∧ _
  have r2 := rg_save (y := -1) r1 s1.bs hr1 hn1 (k := n1.kind) (l := n1.links - 1) (z := n1.data.size) (p := if n1.kind = 2 then π n1.ino else 0) rfl
  have t1 := h.ws.linked (y := -1) hs.node (by omega)
  obtain ⟨d1,hd1,kd1,_,_,ed1⟩ := linked_at (y := -1) h.ws.nod hs.node hs.dir
  have t2 := t1.named (i := 0) (nm := s.name) hd1 (fun h => absurd rfl h)
  have r3 := rg_eqv r2 (eqv_ln h.ws.nod hs.dir hs.node) (s1.linked hn1 (by omega)).nod t2.nod
  have v1 := h.sim.wf.link (y := -1) hs.node (fun _ => by omega) (fun _ => hs.i2)
  rw [if_neg (show ¬ n1.kind = 2 by omega),if_neg (show ¬ n1.kind = 2 by omega)] at v1
  have v2 := v1.del (e := e) hd1 (by rw [kd1]; exact hs.dk) (by rw [ed1]; exact hs.me)
  have hdi : dirB (linkedM F s.ino (-1)) s.ino = false := by
   unfold dirB
   rw [node_linked h.ws.nod hs.node,if_pos rfl]
   exact decide_eq_false (by show ¬ n1.kind = 2; omega)
  rw [hs.en,hs.ei,hdi,if_neg (by decide)] at v2
  have v3 := v2.eq (δ' := zro) (ε' := zro) (fun j => by
   unfold upd zro
   by_cases hj : j = s.ino
   ·rw [if_pos hj,if_pos rfl]; rfl
   ·rw [if_neg hj,if_neg hj]) (fun j => rfl)
  refine ⟨St.of v3 r3 h.sim.pb t2 (Nat.le_refl _) (by rw [if_pos rfl]; omega) h.hk (rise_out _ h.rise) (gone_out _ h.gone),kept_named t1 hd1 fun j m hm hj => ?_,he⟩
  obtain ⟨m',h1,h2,_,_,h3⟩ := linked_at (y := -1) h.ws.nod hs.node hm
  exact ⟨m',h1,h2,h3⟩
 ·rw [if_neg hl,if_pos (show n1.links = 1 by omega)]
  refine ⟨rfl,fun h => absurd rfl h,fun _ => ?_⟩
  show St (namedM (withoutM F s.ino) s.dir s.name 0) π (outW L [unhangP s.dir s.name,dropP s.ino]) k ∧ _
  have r2 := rg_drop r1 s1.bs hr1 hn1 he (s1.data _ (node_mem hn1).1)
  have t1 := h.ws.wo s.ino
  have hdw := wo_at h.ws.nod hs.dir (fun q => hne q.symm)
  have t2 := t1.named (i := 0) (nm := s.name) hdw (fun h => absurd rfl h)
  have r3 := rg_eqv r2 (eqv_wn h.ws.nod hs.dir (fun q => hne q.symm)) (s1.wo s.ino).nod t2.nod
  have hc : cnt F s.ino = 1 := by omega
  have v1 := h.sim.wf.drop hs.dir hs.me hs.ei hs.node he hs.i2 hc
  rw [if_neg (show ¬ n1.kind = 2 by omega)] at v1
  have v2 := v1.del (e := e) hdw hs.dk hs.me
  have hi2 : nodeM (withoutM F s.ino) s.ino = none := by rw [node_wo h.ws.nod,if_pos rfl]
  rw [hs.en,hs.ei,dir_none hi2,if_neg (by decide)] at v2
  have hi3 : nodeM (namedM (withoutM F s.ino) s.dir s.name 0) s.ino = none := by
   rw [node_named t1.nod hdw,if_neg hne]; exact hi2
  have hc3 : cnt (namedM (withoutM F s.ino) s.dir s.name 0) s.ino = 0 := by
   have h1 := cnt_named (i := 0) (nm := s.name) t1.nod hdw (t1.ord d (node_mem hdw).1) s.ino
   rw [cnt_wo h.ws.nod hs.node he,hc,← hs.en,old_some (t1.ord d (node_mem hdw).1) hs.me,if_pos hs.ei,hs.en] at h1
   simp at h1
   exact h1
  have v3 := (v2.clean (no_more hc3)).eq_on (δ' := zro) (ε' := zro) (fun m hm => by
   unfold upd zro
   rw [if_neg (node_none hi3 m hm)]) (fun m hm _ => rfl)
  exact ⟨St.of v3 r3 h.sim.pb t2 (Nat.le_refl _) (by rw [if_pos rfl]; omega) h.hk (rise_out _ h.rise) (gone_out _ h.gone),kept_named t1 hdw fun j m hm hj => ⟨m,wo_at h.ws.nod hm hj,rfl,rfl⟩,he⟩
theorem Clr.did {s : Spt} {n : Nd} {V : Int × List Wrt} {M : Int × Fs} (c : Clr F π L k s n V M) (h : St F π L k) (hk : k + 1 ≤ 900) : Did L V M (k + 1) := by
 refine ⟨c.er,?_,fun h => (c.no h).1⟩
 by_cases he : V.1 = 0
 ·exact ⟨π,(c.yes he).1.more (Nat.le_succ _) hk⟩
 ·have := c.no he
  rw [this.1,this.2]
  exact ⟨π,h.more (Nat.le_succ _) hk⟩
theorem rmd_did (h : St F π L k) (hk : k + 1 ≤ 900) (path : ByteArray) : Did L (rmdV L path) (removeM F path) (k + 1) := by
 obtain ⟨hf,hled⟩ := h.sim.find path
 unfold rmdV removeM
 rw [hf]
 obtain ⟨⟨s,er⟩,hR⟩ : ∃ R,fndM F path = R := ⟨_,rfl⟩
 rw [hR] at hled ⊢
 dsimp only at hled ⊢
 by_cases he : er ≠ 0
 ·rw [if_pos he,if_pos he]; exact Did.err h hk
 rw [if_neg he,if_neg he]
 have hsi : (spotOf F π s).ino = s.ino := rfl
 rw [hsi]
 by_cases h1 : s.ino = 1
 ·rw [if_pos h1,if_pos h1]; exact Did.err h hk
 rw [if_neg h1,if_neg h1]
 by_cases h0 : s.ino = 0
 ·rw [if_pos h0,if_pos h0]; exact Did.err h hk
 rw [if_neg h0,if_neg h0]
 obtain ⟨d,n,e,hs⟩ := sit_of h (hled (by omega)) h0 h1
 exact (rem_clr h hs).did h hk
theorem ulk_did (h : St F π L k) (hk : k + 1 ≤ 900) (path : ByteArray) : Did L (ulkV L path) (unlinkM F path) (k + 1) := by
 obtain ⟨hf,hled⟩ := h.sim.find path
 unfold ulkV unlinkM
 rw [hf]
 obtain ⟨⟨s,er⟩,hR⟩ : ∃ R,fndM F path = R := ⟨_,rfl⟩
 rw [hR] at hled ⊢
 dsimp only at hled ⊢
 by_cases he : er ≠ 0
 ·rw [if_pos he,if_pos he]; exact Did.err h hk
 rw [if_neg he,if_neg he]
 have hsi : (spotOf F π s).ino = s.ino := rfl
 rw [hsi]
 by_cases h0 : s.ino = 0
 ·rw [if_pos h0,if_pos h0]; exact Did.err h hk
 rw [if_neg h0,if_neg h0]
 by_cases h1 : s.ino = 1
 ·obtain ⟨r,hr,hk2⟩ := h.sim.wf.root
  rw [← h1] at hr
  unfold unlV unlinkAt
  rw [hr,spot_k h hr]
  dsimp only
  rw [show (inoL π r).k = r.kind from rfl,if_pos (show r.kind ≠ 1 by omega),if_pos hk2]
  exact Did.err h hk
 ·obtain ⟨d,n,e,hs⟩ := sit_of h (hled (by omega)) h0 h1
  exact (unl_clr h hs).did h hk
theorem lnk_did (h : St F π L k) (hk : k + 1 ≤ 900) (old path : ByteArray) : Did L (lnkV L old path) (linkM F old path) (k + 1) := by
 obtain ⟨hf,hled⟩ := h.sim.find old
 obtain ⟨hf2,hled2⟩ := h.sim.find path
 unfold lnkV linkM
 rw [hf,hf2]
 obtain ⟨⟨s,er⟩,hR⟩ : ∃ R,fndM F old = R := ⟨_,rfl⟩
 obtain ⟨⟨t,er2⟩,hR2⟩ : ∃ R,fndM F path = R := ⟨_,rfl⟩
 rw [hR] at hled ⊢
 rw [hR2] at hled2 ⊢
 dsimp only at hled hled2 ⊢
 by_cases he : er ≠ 0
 ·rw [if_pos he,if_pos he]; exact Did.err h hk
 rw [if_neg he,if_neg he]
 have hsi : (spotOf F π s).ino = s.ino := rfl
 have hti : (spotOf F π t).ino = t.ino := rfl
 have htd : (spotOf F π t).dir = t.dir := rfl
 have htn : (spotOf F π t).name = t.name := rfl
 rw [hsi,hti,htd,htn]
 by_cases h0 : s.ino = 0
 ·rw [if_pos h0,if_pos h0]; exact Did.err h hk
 rw [if_neg h0,if_neg h0]
 have led := hled (by omega)
 obtain ⟨n,hn⟩ := led.at_.resolve_left h0
 have hnm := node_mem hn
 rw [hn,spot_k h hn]
 dsimp only
 rw [show (inoL π n).k = n.kind from rfl,show (inoL π n).l = n.links from rfl]
 rcases h.sim.wf.kind n hnm.1 with hk2 | ⟨hk1,hents⟩
 ·rw [if_pos (show n.kind ≠ 1 by omega),if_pos hk2]; exact Did.err h hk
 rw [if_neg (show ¬ n.kind ≠ 1 by omega),if_neg (show ¬ n.kind = 2 by omega)]
 by_cases he2 : er2 ≠ 0
 ·rw [if_pos he2,if_pos he2]; exact Did.err h hk
 rw [if_neg he2,if_neg he2]
 by_cases h02 : t.ino ≠ 0
 ·rw [if_pos h02,if_pos h02]; exact Did.err h hk
 rw [if_neg h02,if_neg h02]
 by_cases hl : 1000 ≤ n.links
 ·rw [if_pos hl,if_pos hl]; exact Did.err h hk
 rw [if_neg hl,if_neg hl]
 have h1 : s.ino ≠ 1 := fun h1 => by
  obtain ⟨r,hr,hrk⟩ := h.sim.wf.root
  rw [← h1,hn] at hr
  injection hr with hr
  rw [hr] at hk1
  omega
 have hni := h.ws.ino n hnm.1
 rw [hnm.2] at hni
 have h00 : t.ino = 0 := by omega
 obtain ⟨htnm,d,hd,hdk,hde⟩ := (hled2 (by omega)).way.resolve_left (fun h => by omega)
 rw [h00] at hde
 have hno := no_entry h hd hde
 have hne : s.ino ≠ t.dir := fun q => by
  rw [← q,hn] at hd
  injection hd with hd
  rw [hd] at hk1
  omega
 have hp := h.sim.wf.pos n hnm.1 hk1
 refine ⟨rfl,⟨π,?_⟩,fun h => absurd rfl h⟩
 show St (namedM (linkedM F s.ino 1) t.dir t.name s.ino) π (outW L [hangP t.dir t.name s.ino,saveP s.ino n.kind (n.links + 1) n.data.size (if n.kind = 2 then π n.ino else 0)]) (k + 1)
 have r1 := rg_hang h.sim.rg h.ws.bs h.rise hd (good_of htnm) h0
 have s1 := h.ws.named (i := s.ino) (nm := t.name) hd (fun _ => ⟨htnm,hni⟩)
 have hr1 := rise_done h.rise (hangP t.dir t.name s.ino L)
 obtain ⟨n1,hn1,_,_,_,en1,_⟩ := named_at (i := s.ino) (nm := t.name) h.ws.nod hd hn
 have en1 := en1 hne
 subst en1
 have r2 := rg_save (y := 1) r1 s1.bs hr1 hn1 (k := n1.kind) (l := n1.links + 1) (z := n1.data.size) (p := if n1.kind = 2 then π n1.ino else 0) rfl
 have t1 := h.ws.linked (y := 1) hn (by omega)
 obtain ⟨d1,hd1,kd1,_,_,ed1⟩ := linked_at (y := 1) h.ws.nod hn hd
 have t2 := t1.named (i := s.ino) (nm := t.name) hd1 (fun _ => ⟨htnm,hni⟩)
 have r3 := rg_eqv r2 (eqv_ln h.ws.nod hd hn) (s1.linked hn1 (by omega)).nod t2.nod
 have v1 := h.sim.wf.link (y := 1) hn (fun _ => by omega) (fun _ => h1)
 rw [if_neg (show ¬ n1.kind = 2 by omega),if_neg (show ¬ n1.kind = 2 by omega)] at v1
 obtain ⟨m1,hm1,km1,_,_,_⟩ := linked_at (y := 1) h.ws.nod hn hn
 have v2 := v1.ins hd1 (by rw [kd1]; exact hdk) (by rw [ed1]; exact hno) htnm hni.1 hni.2 hm1 (.inl ⟨by rw [km1]; omega,rfl⟩)
 rw [if_neg (show ¬ m1.kind = 2 by omega)] at v2
 have v3 := v2.eq (δ' := zro) (ε' := zro) (fun j => by
  unfold upd zro
  by_cases hj : j = s.ino
  ·rw [if_pos hj,if_pos rfl]; rfl
  ·rw [if_neg hj,if_neg hj]) (fun j => rfl)
 exact St.of v3 r3 h.sim.pb t2 (by omega) (by rw [if_neg h0]; omega) hk (rise_out _ h.rise) (gone_out _ h.gone)
end
end Go.Proofs.YtfalhnomhidkcaaGreatDoor.DirsZa
namespace Go.Proofs.YtfalhnomhidkcaaGreatDoor.DirsZb
open Byte PackM KeysM TreeM ViewM ViewKm NamesM WalkM WalkF WalkKm DirsM DirsV DirsW DirsX DirsY DirsS DirsZ DirsZa
open NodeM hiding gk
section
variable {F : Fs} {π : Int → Int} {L : List Pr} {k : Nat}
theorem mov_st (h : St F π L k) (hk : k + 1 ≤ 900) {s t : Spt} {d n td : Nd} {e : En} (hs : Sit F s d n e) (ht : nodeM F t.dir = some td) (tdk : td.kind = 2) (hno : ∀ e ∈ td.ents,e.name ≠ t.name) (htnm : nameOk t.name = true) {x y : Spot} (x1 : x.dir = s.dir) (x2 : x.name = s.name) (x3 : x.ino = s.ino) (x4 : x.node.k = n.kind) (y1 : y.dir = t.dir) (y2 : y.name = t.name) : ∃ π',St (moveAt F s t (decide (n.kind = 2))) π' (outW L (movPs x y)) (k + 1) := by
 have hi0 : s.ino ≠ 0 := by have := hs.i0; omega
 have hnm := node_mem hs.node
 have hdm := node_mem hs.dir
 have htm := node_mem ht
 have htb := h.ws.ino td htm.1
 rw [htm.2] at htb
 have r1 := rg_unhang h.sim.rg h.ws.bs h.rise hs.dir (good_of hs.nm)
 have s1 := h.ws.named (i := 0) (nm := s.name) hs.dir (fun h => absurd rfl h)
 have hr1 := rise_done h.rise (unhangP s.dir s.name L)
 obtain ⟨td1,ht1,ktd1,ltd1,itd1,etd1,etd2⟩ := named_at (i := 0) (nm := s.name) h.ws.nod hs.dir ht
 obtain ⟨d1,hd1,kd1,ld1,id1,_,_⟩ := named_at (i := 0) (nm := s.name) h.ws.nod hs.dir hs.dir
 obtain ⟨n1,hn1,kn1,ln1,in1,_,_⟩ := named_at (i := 0) (nm := s.name) h.ws.nod hs.dir hs.node
 have hno1 : ∀ e ∈ td1.ents,e.name ≠ t.name := fun z hz => by
  by_cases q : t.dir = s.dir
  ·rw [etd2 q] at hz
   rcases (mem_ins (h.ws.ord td htm.1)).1 hz with ⟨h1,_⟩ | ⟨h1,_⟩
   ·exact absurd rfl h1
   ·exact hno z h1
  ·rw [etd1 q] at hz
   exact hno z hz
 have r2 := rg_hang r1 s1.bs hr1 ht1 (good_of htnm) hi0
 have s2 := s1.named (i := s.ino) (nm := t.name) ht1 (fun _ => ⟨htnm,hs.i0,hs.i1⟩)
 have hr2 := rise_done hr1 (hangP t.dir t.name s.ino (doneW L (unhangP s.dir s.name L)))
 have v1 := h.sim.wf.del hs.dir hs.dk hs.me
 rw [hs.en,hs.ei,dir_some hs.node] at v1
 by_cases hk2 : n.kind = 2
 ·rw [decide_eq_true hk2] at v1 ⊢
  rw [if_pos rfl] at v1
  have e1 : moveAt F s t true = linkedM (linkedM (namedM (namedM F s.dir s.name 0) t.dir t.name s.ino) s.dir (-1)) t.dir 1 := rfl
  rw [e1]
  refine ⟨upd π s.ino t.dir,?_⟩
  have hpb : ∀ j,0 ≤ upd π s.ino t.dir j ∧ upd π s.ino t.dir j ≤ 4294967295 := fun j => by
   have := h.sim.pb j
   unfold upd
   split <;> omega
  have hp1 : upd π s.ino t.dir 1 = 1 := by rw [upd_ne _ _ (fun q => hs.i2 q.symm)]; exact h.sim.wf.par1
  have hn1m := node_mem hn1
  have hc1 : cnt (namedM F s.dir s.name 0) s.ino = 0 := by
   have h1 := v1.cnt n1 hn1m.1
   unfold wantC at h1
   rw [hn1m.2,if_neg hs.i2,if_pos (by rw [kn1]; exact hk2),upd_same] at h1
   have h3 : zro s.ino = 0 := rfl
   omega
  have v2 := v1.ins (π' := upd π s.ino t.dir) ht1 (by rw [ktd1]; exact tdk) hno1 htnm hs.i0 hs.i1 hn1 (.inr ⟨by rw [kn1]; exact hk2,hs.i2,rfl,no_more hc1⟩)
  rw [if_pos (by rw [kn1]; exact hk2)] at v2
  obtain ⟨d2,hd2,kd2,ld2,id2,_,_⟩ := named_at (i := s.ino) (nm := t.name) s1.nod ht1 hd1
  obtain ⟨td2,ht2,ktd2,ltd2,itd2,_,_⟩ := named_at (i := s.ino) (nm := t.name) s1.nod ht1 ht1
  obtain ⟨n2,hn2,kn2,ln2,in2,_,_⟩ := named_at (i := s.ino) (nm := t.name) s1.nod ht1 hn1
  have hdk2 : d2.kind = 2 := by rw [kd2,kd1]; exact hs.dk
  have v3 := v2.link (y := -1) hd2 (fun q => by omega) (fun q => by omega)
  rw [if_pos hdk2,if_pos hdk2] at v3
  have s3 := s2.linked (y := -1) hd2 (by omega)
  obtain ⟨td3,ht3,ktd3,ltd3,itd3,_⟩ := linked_at (y := -1) s2.nod hd2 ht2
  have htk3 : td3.kind = 2 := by rw [ktd3,ktd2,ktd1]; exact tdk
  have v4 := v3.link (y := 1) ht3 (fun q => by omega) (fun q => by omega)
  rw [if_pos htk3,if_pos htk3] at v4
  have s4 := s3.linked (y := 1) ht3 (by omega)
  have v5 := v4.eq (δ' := zro) (ε' := zro) (fun j => by
   unfold upd zro
   by_cases hj : j = s.ino
   ·rw [if_pos hj,if_pos rfl]; rfl
   ·rw [if_neg hj,if_neg hj]) (fun j => by
   unfold upd zro
   by_cases a : t.dir = s.dir
   ·by_cases b : j = s.dir
    ·simp [a,b]
    ·simp [a,b]
   ·have a' : ¬ s.dir = t.dir := fun q => a q.symm
    by_cases b : j = s.dir
    ·simp [a,a',b]
    ·by_cases c : j = t.dir
     ·simp [a,a',b,c]
     ·simp [a,a',b,c])
  have hfn := h.sim.fine hnm.1
  have hfd := (h.sim.fine hdm.1).kl.resolve_left (fun q => by have := hs.dk; omega)
  have hft := (h.sim.fine htm.1).kl.resolve_left (fun q => by omega)
  have hdl : d.links ≤ 2000 := (h.ws.links d hdm.1).2
  have htl : td.links ≤ 2000 := (h.ws.links td htm.1).2
  by_cases hsd : s.dir = t.dir
  ·have e2 : movPs x y = [unhangP s.dir s.name,hangP t.dir t.name s.ino] := by
    unfold movPs
    rw [if_neg (fun q => q.2 (by rw [x1,y1]; exact hsd)),x1,x2,x3,y1,y2]
   rw [e2]
   have r3 := rg_pi r2 (π' := upd π s.ino t.dir) (fun z hz => by
    unfold upd
    by_cases q : z.ino = s.ino
    ·rw [if_pos q,q]
     have := h.sim.wf.par d hdm.1 e hs.me (by rw [hs.ei,dir_some hs.node]; exact decide_eq_true hk2)
     rw [hs.ei,hdm.2] at this
     rw [this,hsd]
    ·rw [if_neg q])
   have hE : Eqv (namedM (namedM F s.dir s.name 0) t.dir t.name s.ino) (linkedM (linkedM (namedM (namedM F s.dir s.name 0) t.dir t.name s.ino) s.dir (-1)) t.dir 1) := fun j => by
    rw [← hsd]
    rw [← hsd] at hd2 s2
    exact (eqv_back s2.nod hd2 j).symm
   exact St.of v5 (rg_eqv r3 hE s2.nod s4.nod) hpb s4 (by omega) (by rw [if_pos rfl,if_neg hi0]; omega) hk (rise_out _ h.rise) (gone_out _ h.gone)
  ·have e2 : movPs x y = [unhangP s.dir s.name,hangP t.dir t.name s.ino,adoptP t.dir s.ino,tieP s.dir (-1),tieP t.dir 1] := by
    unfold movPs
    rw [if_pos ⟨by rw [x4]; exact hk2,by rw [x1,y1]; exact hsd⟩,x1,x2,x3,y1,y2]
   rw [e2]
   have fin : ∀ {π2 : Int → Int} {m m' : Nd},(∀ j,0 ≤ π2 j ∧ π2 j ≤ 4294967295) → m'.kind = 2 → m'.links = m.links → 2 ≤ m.links → m.links ≤ 2000 → (m'.data.size ≤ 4096 ∧ (m'.kind = 2 → m'.data = NE)) → Fine π2 m' := fun hb a b c q z => ⟨.inr ⟨a,by omega,by omega⟩,(hb _).1,(hb _).2,z⟩
   have hnk := hfn.kl.resolve_left (fun q => by omega)
   have hnl : n.links ≤ 2000 := (h.ws.links n hnm.1).2
   have r3 := rg_adopt (p := t.dir) r2 s2.bs hr2 hn2 (by rw [kn2,kn1]; exact hk2) (fin (m := n) h.sim.pb (by rw [kn2,kn1]; exact hk2) (by rw [ln2,ln1]) hnk.2.1 hnl (s2.fd (node_mem hn2).1)) h.sim.wf.par1
   have hr3 := rise_done hr2 (adoptP t.dir s.ino (doneW (doneW L (unhangP s.dir s.name L)) (hangP t.dir t.name s.ino (doneW L (unhangP s.dir s.name L)))))
   have r4 := rg_tie (y := -1) r3 s2.bs hr3 hd2 (fin (m := d) hpb hdk2 (by rw [ld2,ld1]) hfd.2.1 hdl (s2.fd (node_mem hd2).1)) hp1 (by rw [ld2,ld1]; omega)
   have hr4 := rise_done hr3 (tieP s.dir (-1) (doneW (doneW (doneW L (unhangP s.dir s.name L)) (hangP t.dir t.name s.ino (doneW L (unhangP s.dir s.name L)))) (adoptP t.dir s.ino (doneW (doneW L (unhangP s.dir s.name L)) (hangP t.dir t.name s.ino (doneW L (unhangP s.dir s.name L)))))))
   have lt3 : td3.links = td.links := by rw [ltd3,if_neg (fun q => hsd q.symm),ltd2,ltd1]
   have r5 := rg_tie (y := 1) r4 s3.bs hr4 ht3 (fin (m := td) hpb htk3 lt3 hft.2.1 htl (s3.fd (node_mem ht3).1)) hp1 (by rw [lt3]; omega)
   exact St.of v5 r5 hpb s4 (by omega) (by rw [if_pos rfl,if_neg hi0]; omega) hk (rise_out _ h.rise) (gone_out _ h.gone)
 ·rw [decide_eq_false hk2] at v1 ⊢
  rw [if_neg (by decide)] at v1
  have e1 : moveAt F s t false = namedM (namedM F s.dir s.name 0) t.dir t.name s.ino := rfl
  have e2 : movPs x y = [unhangP s.dir s.name,hangP t.dir t.name s.ino] := by
   unfold movPs
   rw [if_neg (fun q => hk2 (by rw [← x4]; exact q.1)),x1,x2,x3,y1,y2]
  rw [e1,e2]
  refine ⟨π,?_⟩
  have v2 := v1.ins (π' := π) ht1 (by rw [ktd1]; exact tdk) hno1 htnm hs.i0 hs.i1 hn1 (.inl ⟨by rw [kn1]; exact hk2,rfl⟩)
  rw [if_neg (by rw [kn1]; exact hk2)] at v2
  have v3 := v2.eq (δ' := zro) (ε' := zro) (fun j => by
   unfold upd zro
   by_cases hj : j = s.ino
   ·rw [if_pos hj,if_pos rfl]; rfl
   ·rw [if_neg hj,if_neg hj]) (fun j => rfl)
  exact St.of v3 r2 h.sim.pb s2 (by omega) (by rw [if_pos rfl,if_neg hi0]; omega) hk (rise_out _ h.rise) (gone_out _ h.gone)
theorem ren_did (h : St F π L k) (hk : k + 1 ≤ 900) (old path : ByteArray) : Did L (renV L old path) (renameM F old path) (k + 1) := by
 obtain ⟨hf,hled⟩ := h.sim.find old
 obtain ⟨hf2,hled2⟩ := h.sim.find path
 unfold renV renameM
 rw [hf,hf2]
 obtain ⟨⟨s,er⟩,hR⟩ : ∃ R,fndM F old = R := ⟨_,rfl⟩
 obtain ⟨⟨t,er2⟩,hR2⟩ : ∃ R,fndM F path = R := ⟨_,rfl⟩
 rw [hR] at hled ⊢
 rw [hR2] at hled2 ⊢
 dsimp only at hled hled2 ⊢
 by_cases he : er ≠ 0
 ·rw [if_pos he,if_pos he]; exact Did.err h hk
 rw [if_neg he,if_neg he]
 have hsi : (spotOf F π s).ino = s.ino := rfl
 have hti : (spotOf F π t).ino = t.ino := rfl
 rw [hsi,hti]
 by_cases h1 : s.ino = 1
 ·rw [if_pos h1,if_pos h1]; exact Did.err h hk
 rw [if_neg h1,if_neg h1]
 by_cases h0 : s.ino = 0
 ·rw [if_pos h0,if_pos h0]; exact Did.err h hk
 rw [if_neg h0,if_neg h0]
 by_cases he2 : er2 ≠ 0
 ·rw [if_pos he2,if_pos he2]; exact Did.err h hk
 rw [if_neg he2,if_neg he2]
 by_cases h12 : t.ino = 1
 ·rw [if_pos h12,if_pos h12]; exact Did.err h hk
 rw [if_neg h12,if_neg h12]
 by_cases hst : s.ino = t.ino
 ·rw [if_pos hst,if_pos hst.symm]; exact Did.err h hk
 rw [if_neg hst,if_neg (show ¬ t.ino = s.ino from fun q => hst q.symm)]
 obtain ⟨d,n,e,hs⟩ := sit_of h (hled (by omega)) h0 h1
 have ledt := hled2 (by omega)
 rw [hs.node,spot_k h hs.node]
 dsimp only
 rw [show (inoL π n).k = n.kind from rfl]
 by_cases hu : n.kind = 2 ∧ under (spl old).1 (spl path).1 = true
 ·rw [if_pos hu,if_pos hu]; exact Did.err h hk
 rw [if_neg hu,if_neg hu]
 have x4 : (spotOf F π s).node.k = n.kind := by rw [spot_k h hs.node]; rfl
 by_cases h02 : t.ino = 0
 ·have ec : clearAt F t (decide (n.kind = 2)) = (0,F) := if_pos h02
  have ev : clrV L (spotOf F π t) (decide (n.kind = 2)) = (0,[]) := if_pos h02
  rw [ec,ev]
  dsimp only
  rw [if_neg (fun q => q rfl),if_neg (fun q => q rfl)]
  obtain ⟨htnm,td,ht,tdk,hte⟩ := ledt.way.resolve_left (fun q => h12 q.2.2)
  rw [h02] at hte
  exact ⟨rfl,mov_st h hk hs ht tdk (no_entry h ht hte) htnm rfl rfl rfl x4 rfl rfl,fun q => absurd rfl q⟩
 ·obtain ⟨td,nt,et,hst2⟩ := sit_of h ledt h02 h12
  have c : Clr F π L k t nt (clrV L (spotOf F π t) (decide (n.kind = 2))) (clearAt F t (decide (n.kind = 2))) := by
   unfold clrV clearAt
   rw [hti,if_neg h02,if_neg h02]
   by_cases q : n.kind = 2
   ·rw [decide_eq_true q,if_pos rfl,if_pos rfl]; exact rem_clr h hst2
   ·rw [decide_eq_false q,if_neg (by decide),if_neg (by decide)]; exact unl_clr h hst2
  generalize clrV L (spotOf F π t) (decide (n.kind = 2)) = V at c ⊢
  generalize clearAt F t (decide (n.kind = 2)) = M at c ⊢
  rw [c.er]
  by_cases hM : M.1 ≠ 0
  ·rw [if_pos hM,if_pos hM]; exact Did.err h hk
  rw [if_neg hM,if_neg hM]
  have hV : V.1 = 0 := by rw [c.er]; omega
  obtain ⟨h2,hkept,hne⟩ := c.yes hV
  have a1 : s.dir ≠ t.ino := fun q => by
   have b := hs.dir
   rw [q,hst2.node] at b
   injection b with b
   have b2 := hs.me
   rw [← b,hne] at b2
   cases b2
  have a2 : t.dir ≠ t.ino := fun q => ne_dir hst2 hne q.symm
  obtain ⟨d',hd',kd',ed'⟩ := hkept s.dir d hs.dir a1
  obtain ⟨n',hn',kn',_⟩ := hkept s.ino n hs.node hst
  obtain ⟨td',htd',ktd',etd'⟩ := hkept t.dir td hst2.dir a2
  have a3 : ¬ (s.dir = t.dir ∧ e.name = t.name) := fun q => by
   have b := hs.dir
   rw [q.1,hst2.dir] at b
   injection b with b
   have b2 := hs.me
   rw [← b] at b2
   have b3 := ord_eq (h.ws.ord td (node_mem hst2.dir).1) b2 hst2.me (by rw [q.2,hst2.en])
   exact hst (by rw [← hs.ei,← hst2.ei,b3])
  have hs' : Sit M.2 s d' n' e := ⟨hd',by rw [kd']; exact hs.dk,hs.nm,(ed' e).2 ⟨hs.me,a3⟩,hs.en,hs.ei,hn',hs.i0,hs.i1,hs.i2⟩
  have mv := mov_st h2 hk hs' htd' (by rw [ktd']; exact hst2.dk) (fun z hz q => ((etd' z).1 hz).2 ⟨rfl,q⟩) hst2.nm (x := spotOf F π s) (y := spotOf F π t) rfl rfl rfl (by rw [x4,kn']) rfl rfl
  rw [kn',← out_app] at mv
  exact ⟨rfl,mv,fun q => absurd rfl q⟩
theorem lst_same (h : St F π L k) (path : ByteArray) : lstV L path = listF F path := by
 obtain ⟨hf,hled⟩ := h.sim.find path
 unfold lstV listF
 rw [hf]
 obtain ⟨⟨s,er⟩,hR⟩ : ∃ R,fndM F path = R := ⟨_,rfl⟩
 rw [hR] at hled ⊢
 dsimp only at hled ⊢
 by_cases he : er ≠ 0
 ·rw [if_pos he,if_pos he]
 rw [if_neg he,if_neg he]
 have hsi : (spotOf F π s).ino = s.ino := rfl
 rw [hsi]
 by_cases h0 : s.ino = 0
 ·rw [if_pos h0,if_pos h0]
 rw [if_neg h0,if_neg h0]
 obtain ⟨n,hn⟩ := (hled (by omega)).at_.resolve_left h0
 rw [hn,spot_k h hn]
 dsimp only
 rw [show (inoL π n).k = n.kind from rfl,h.sim.list h.rise h.gone hn]
end
end Go.Proofs.YtfalhnomhidkcaaGreatDoor.DirsZb
namespace Go.Proofs.YtfalhnomhidkcaaGreatDoor.DirsLb
open Go.RowKit
open Byte KeysM TreeM ViewM NamesM Lst Tx WalkM WalkF WalkKm DirsM DirsV DirsR DirsRd DirsRe DirsRf DirsRg DirsRh DirsRi DirsRj DirsW DirsY DirsS DirsZ DirsZa DirsZb
open DirsX hiding gk
open ViewR (Sh)
section
variable {F : Fs} {π : Int → Int} {L : List Pr} {k N M K : Nat}
theorem smf (h : Ws F N M K) (h1 : N ≤ 1000) (h2 : M ≤ 1000) (h3 : K ≤ 1000000) : SmF F := by
 refine ⟨Nat.le_trans h.len h1,fun n hn => ?_⟩
 have hi := h.ino n hn
 have hk := h.kind n hn
 have hl := h.links n hn
 have hs := h.small hn
 refine ⟨by omega,hi.2,by omega,by omega,by omega,by omega,?_,by omega,fun e he => ?_⟩
 ·rw [h.data n hn]; decide
 ·have := (name_pos (h.name n hn e he)).2
  have := h.some_ n hn e he
  exact ⟨by omega,by omega,by omega⟩
theorem St.smf (h : St F π L k) : SmF F := DirsLb.smf h.ws (by have := h.hk; omega) (by have := h.hk; omega) (by omega)
theorem St.cl (h : St F π L k) : Cl F := by
 obtain ⟨r,hr,_⟩ := h.sim.wf.root
 exact ⟨⟨r,hr⟩,fun n hn e he => h.sim.wf.goes n hn e he (by have := (h.ws.some_ n hn e he).1; omega)⟩
theorem rem_ok (h : St F π L k) {s : Spt} {d n : Nd} {e : En} (hs : Sit F s d n e) (he : n.ents.length = 0) : RemOk F s := by
 have hk := h.hk
 have hne := ne_dir hs (List.length_eq_zero_iff.1 he)
 have t1 := h.ws.wo s.ino
 have hdw := wo_at h.ws.nod hs.dir (fun q => hne q.symm)
 have t2 := t1.linked (y := -1) hdw (by omega)
 obtain ⟨d2,hd2,_⟩ := linked_at (y := -1) t1.nod hdw hdw
 exact ⟨smf t1 (by omega) (by omega) (by omega),⟨d,hdw⟩,smf t2 (by omega) (by omega) (by omega),⟨d2,hd2⟩⟩
theorem unl_ok (h : St F π L k) {s : Spt} {d n : Nd} {e : En} (hs : Sit F s d n e) (hk2 : n.kind ≠ 2) : UnlOk F s n.links := by
 have hk := h.hk
 have hents := ((h.sim.wf.kind n (node_mem hs.node).1).resolve_left hk2).2
 have hne := ne_dir hs hents
 by_cases hl : n.links = 1
 ·refine ⟨?_,?_⟩
  ·rw [if_pos hl]; exact smf (h.ws.wo s.ino) (by omega) (by omega) (by omega)
  ·rw [if_pos hl]; exact ⟨d,wo_at h.ws.nod hs.dir (fun q => hne q.symm)⟩
 ·refine ⟨?_,?_⟩
  ·rw [if_neg hl]; exact smf (h.ws.linked (y := -1) hs.node (by omega)) (by omega) (by omega) (by omega)
  ·rw [if_neg hl]
   obtain ⟨d2,hd2,_⟩ := linked_at (y := -1) h.ws.nod hs.node hs.dir
   exact ⟨d2,hd2⟩
theorem led_of (h : St F π L k) (path : ByteArray) (h0 : (fndM F path).2 = 0) : Led F (fndM F path).1 := (h.sim.find path).2 h0
theorem ref_make (h : St F π L k) (path : ByteArray) {kind ino : Int} (hp : path.size ≤ 100000) (h1 : 2 ≤ ino) (h2 : ino ≤ 4294967295) (hi : nodeM F ino = none) {hh : Sh} : ∀ T u,FsA T u hh F → (∀ b,u.heap.size ≤ b → T b) → Calls Tryz.prog 44 #[.agg #[.slice hh.a hh.n hh.c],.string path,.int .u8 kind,.int .u32 ino] u (AnsE T (makeM F path kind ino) u) := fun T u hf hT =>
 make_calls hh F path kind ino u hf (St.smf h) (St.cl h) (by unfold maxLen; omega) (fun h0 h00 => by
  have hk := h.hk
  obtain ⟨_,d,hd,_,_⟩ := (led_of h path h0).way.resolve_left (fun q => by rw [h00] at q; have := q.2.2; omega)
  have hdne : (fndM F path).1.dir ≠ ino := fun e => by rw [e,hi] at hd; cases hd
  have hi' : nodeM F (newNd kind ino).ino = none := by rw [new_ino]; exact hi
  have s1 := h.ws.new_ (k := kind) hi (by omega) h2 (by omega)
  have hd1 : nodeM (withM F (newNd kind ino)) (fndM F path).1.dir = some d := by rw [node_new h.ws.nod hi',new_ino,if_neg hdne]; exact hd
  refine ⟨smf s1 (by omega) (by omega) (by omega),⟨d,hd1⟩,?_,?_⟩
  ·split
   ·exact smf s1 (by omega) (by omega) (by omega)
   ·exact smf (s1.linked (y := 1) hd1 (by omega)) (by omega) (by omega) (by omega)
  ·split
   ·exact ⟨d,hd1⟩
   ·obtain ⟨d2,hd2,_⟩ := linked_at (y := 1) s1.nod hd1 hd1
    exact ⟨d2,hd2⟩) hT
theorem ref_rmd (h : St F π L k) (path : ByteArray) (hp : path.size ≤ 100000) {hh : Sh} : ∀ T u,FsA T u hh F → (∀ b,u.heap.size ≤ b → T b) → Calls Tryz.prog 46 #[.agg #[.slice hh.a hh.n hh.c],.string path] u (AnsE T (removeM F path) u) := fun T u hf hT =>
 rem_calls hh F path u hf (St.smf h) (St.cl h) (by unfold maxLen; omega) (fun h0 h1 h2 => by
  obtain ⟨d,n,e,hs⟩ := sit_of h (led_of h path h0) h1 h2
  exact ⟨n,hs.node,fun _ he => rem_ok h hs he⟩) hT
theorem ref_ulk (h : St F π L k) (path : ByteArray) (hp : path.size ≤ 100000) {hh : Sh} : ∀ T u,FsA T u hh F → (∀ b,u.heap.size ≤ b → T b) → Calls Tryz.prog 51 #[.agg #[.slice hh.a hh.n hh.c],.string path] u (AnsE T (unlinkM F path) u) := fun T u hf hT =>
 unl_calls hh F path u hf (St.smf h) (St.cl h) (by unfold maxLen; omega) (fun h0 h1 => by
  obtain ⟨n,hn⟩ := (led_of h path h0).at_.resolve_left h1
  refine ⟨n,hn,fun hk2 => ?_⟩
  have h2 : (fndM F path).1.ino ≠ 1 := fun q => by
   obtain ⟨r,hr,hrk⟩ := h.sim.wf.root
   rw [← q,hn] at hr
   injection hr with hr
   rw [hr] at hk2
   exact hk2 hrk
  obtain ⟨d,n',e,hs⟩ := sit_of h (led_of h path h0) h1 h2
  have := hs.node
  rw [hn] at this
  injection this with this
  subst this
  exact unl_ok h hs hk2) hT
theorem ref_lst (h : St F π L k) (path : ByteArray) (hp : path.size ≤ 100000) {hh : Sh} : ∀ T u,FsA T u hh F → Calls Tryz.prog 48 #[.agg #[.slice hh.a hh.n hh.c],.string path] u (ListE (listF F path) u) := fun T u hf =>
 list_calls hh F path u hf (St.smf h) (St.cl h) (by unfold maxLen; omega) (fun h0 h1 => (led_of h path h0).at_.resolve_left h1)
theorem ref_lnk (h : St F π L k) (old path : ByteArray) (hp : old.size ≤ 100000) (hp2 : path.size ≤ 100000) {hh : Sh} : ∀ T u,FsA T u hh F → (∀ b,u.heap.size ≤ b → T b) → Calls Tryz.prog 50 #[.agg #[.slice hh.a hh.n hh.c],.string old,.string path] u (AnsE T (linkM F old path) u) := fun T u hf hT =>
 link_calls hh F old path u hf (St.smf h) (St.cl h) (by unfold maxLen; omega) (by unfold maxLen; omega) (fun h0 h1 => by
  have hk := h.hk
  obtain ⟨n,hn⟩ := (led_of h old h0).at_.resolve_left h1
  refine ⟨n,hn,fun _ h2 h3 _ => ?_⟩
  obtain ⟨_,d,hd,_,_⟩ := (led_of h path h2).way.resolve_left (fun q => by rw [h3] at q; have := q.2.2; omega)
  obtain ⟨d2,hd2,_⟩ := linked_at (y := 1) h.ws.nod hn hd
  exact ⟨smf (h.ws.linked (y := 1) hn (by omega)) (by omega) (by omega) (by omega),⟨d2,hd2⟩⟩) hT
theorem mov_ok (h : St F π L k) {s t : Spt} {d n td : Nd} {e : En} (hs : Sit F s d n e) (ht : nodeM F t.dir = some td) (htnm : nameOk t.name = true) (dir : Bool) : MoveOk F s t dir := by
 have hk := h.hk
 have s1 := h.ws.named (i := 0) (nm := s.name) hs.dir (fun h => absurd rfl h)
 rw [if_pos rfl] at s1
 obtain ⟨td1,ht1,_⟩ := named_at (i := 0) (nm := s.name) h.ws.nod hs.dir ht
 obtain ⟨d1,hd1,_⟩ := named_at (i := 0) (nm := s.name) h.ws.nod hs.dir hs.dir
 have s2 := s1.named (i := s.ino) (nm := t.name) ht1 (fun _ => ⟨htnm,hs.i0,hs.i1⟩)
 have h0 : s.ino ≠ 0 := by have := hs.i0; omega
 rw [if_neg h0] at s2
 obtain ⟨d2,hd2,_⟩ := named_at (i := s.ino) (nm := t.name) s1.nod ht1 hd1
 obtain ⟨td2,ht2,_⟩ := named_at (i := s.ino) (nm := t.name) s1.nod ht1 ht1
 have s3 := s2.linked (y := -1) hd2 (by omega)
 obtain ⟨td3,ht3,_⟩ := linked_at (y := -1) s2.nod hd2 ht2
 exact ⟨smf h.ws (by omega) (by omega) (by omega),⟨d,hs.dir⟩,smf s1 (by omega) (by omega) (by omega),⟨td1,ht1⟩,fun _ => smf s2 (by omega) (by omega) (by omega),fun _ => ⟨d2,hd2⟩,fun _ => smf s3 (by omega) (by omega) (by omega),fun _ => ⟨td3,ht3⟩⟩
theorem after_clear (h : St F π L k) {s t : Spt} {d n : Nd} {e : En} (hs : Sit F s d n e) (ledt : Led F t) (h12 : t.ino ≠ 1) (hst : s.ino ≠ t.ino) (dir : Bool) (hM : (clearAt F t dir).1 = 0) : ∃ L2 d' n' td',St (clearAt F t dir).2 π L2 k ∧ Sit (clearAt F t dir).2 s d' n' e ∧ nodeM (clearAt F t dir).2 t.dir = some td' ∧ nameOk t.name = true := by
 by_cases h02 : t.ino = 0
 ·have ec : clearAt F t dir = (0,F) := if_pos h02
  rw [ec]
  obtain ⟨htnm,td,ht,tdk,hte⟩ := ledt.way.resolve_left (fun q => h12 q.2.2)
  exact ⟨L,d,n,td,h,hs,ht,htnm⟩
 ·obtain ⟨td,nt,et,hst2⟩ := sit_of h ledt h02 h12
  have c : Clr F π L k t nt (clrV L (spotOf F π t) dir) (clearAt F t dir) := by
   unfold clrV clearAt
   rw [show (spotOf F π t).ino = t.ino from rfl,if_neg h02,if_neg h02]
   cases dir with
   | true => rw [if_pos rfl,if_pos rfl]; exact rem_clr h hst2
   | false => rw [if_neg (by decide),if_neg (by decide)]; exact unl_clr h hst2
  obtain ⟨h2,hkept,hne⟩ := c.yes (by rw [c.er]; exact hM)
  have a1 : s.dir ≠ t.ino := fun q => by
   have b := hs.dir
   rw [q,hst2.node] at b
   injection b with b
   have b2 := hs.me
   rw [← b,hne] at b2
   cases b2
  have a2 : t.dir ≠ t.ino := fun q => ne_dir hst2 hne q.symm
  obtain ⟨d',hd',kd',ed'⟩ := hkept s.dir d hs.dir a1
  obtain ⟨n',hn',kn',_⟩ := hkept s.ino n hs.node hst
  obtain ⟨td',htd',ktd',etd'⟩ := hkept t.dir td hst2.dir a2
  have a3 : ¬ (s.dir = t.dir ∧ e.name = t.name) := fun q => by
   have b := hs.dir
   rw [q.1,hst2.dir] at b
   injection b with b
   have b2 := hs.me
   rw [← b] at b2
   have b3 := ord_eq (h.ws.ord td (node_mem hst2.dir).1) b2 hst2.me (by rw [q.2,hst2.en])
   exact hst (by rw [← hs.ei,← hst2.ei,b3])
  exact ⟨_,d',n',td',h2,⟨hd',by rw [kd']; exact hs.dk,hs.nm,(ed' e).2 ⟨hs.me,a3⟩,hs.en,hs.ei,hn',hs.i0,hs.i1,hs.i2⟩,htd',hst2.nm⟩
theorem ref_ren (h : St F π L k) (old path : ByteArray) (hp : old.size ≤ 100000) (hp2 : path.size ≤ 100000) {hh : Sh} : ∀ T u,FsA T u hh F → (∀ b,u.heap.size ≤ b → T b) → Calls Tryz.prog 52 #[.agg #[.slice hh.a hh.n hh.c],.string old,.string path] u (AnsE T (renameM F old path) u) := fun T u hf hT =>
 rename_calls hh F old path u hf (St.smf h) (St.cl h) (by unfold maxLen; omega) (by unfold maxLen; omega) hT (fun h0 h1 h2 h3 h4 h5 => by
  obtain ⟨d,n,e,hs⟩ := sit_of h (led_of h old h0) h2 h1
  have ledt := led_of h path h3
  refine ⟨n,hs.node,fun _ => ⟨fun h02 => ?_,fun hM => ?_⟩⟩
  ·obtain ⟨td,nt,et,hst2⟩ := sit_of h ledt h02 h4
   exact ⟨nt,hst2.node,fun _ _ he => rem_ok h hst2 he,fun _ hk2 => unl_ok h hst2 hk2⟩
  ·obtain ⟨L2,d',n',td',g1,g2,g3,g4⟩ := after_clear h hs ledt h4 (fun q => h5 q.symm) _ hM
   exact mov_ok g1 g2 g3 g4 _)
end
end Go.Proofs.YtfalhnomhidkcaaGreatDoor.DirsLb
namespace Go.Proofs.YtfalhnomhidkcaaGreatDoor.DirsT
open Byte PackM KeysM TreeM ViewM ViewKm NamesM WalkM WalkF WalkKm DirsM DirsV DirsW DirsX DirsY DirsS DirsZ DirsZa DirsZb
open NodeM hiding gk
def entF (F : Fs) (d : Int) (nm : ByteArray) : Int := match nodeM F d with
 | some n => entryM n nm
 | none => 0
section
variable {F : Fs} {d i : Int} {nm : ByteArray} {n : Nd}
theorem entF_some (h : nodeM F d = some n) (nm : ByteArray) : entF F d nm = entryM n nm := by unfold entF; rw [h]
theorem entF_none (h : nodeM F d = none) (nm : ByteArray) : entF F d nm = 0 := by unfold entF; rw [h]
theorem entF_mem (h : entF F d nm ≠ 0) : ∃ n e,nodeM F d = some n ∧ e ∈ n.ents ∧ e.name = nm ∧ e.ino = entF F d nm := by
 cases hn : nodeM F d with
 | none => rw [entF_none hn] at h; exact absurd rfl h
 | some n =>
   rw [entF_some hn] at h ⊢
   rcases entry_ways n nm with ⟨e,h1,h2,h3⟩ | ⟨_,h3⟩
   ·exact ⟨n,e,rfl,h1,h2,h3.symm⟩
   ·exact absurd h3 h
theorem entF_of (h : nodeM F d = some n) (ho : Ord n.ents) {e : En} (he : e ∈ n.ents) : entF F d e.name = e.ino := by rw [entF_some h,entry_some ho he]
theorem entry_ins (ho : Ord n.ents) (nm : ByteArray) (i : Int) (x : ByteArray) : entryM { n with ents := insE nm i (decide (i = 0)) n.ents } x = if x = nm then i else entryM n x := by
 have ho2 : Ord ({ n with ents := insE nm i (decide (i = 0)) n.ents } : Nd).ents := ord_ins ho nm i
 by_cases hx : x = nm
 ·rw [if_pos hx,hx]
  by_cases hi : i = 0
  ·rw [hi]
   refine entry_none (fun e he hn => ?_)
   rcases (mem_ins ho (i := 0)).1 he with ⟨h,_⟩ | ⟨_,h⟩
   ·exact h rfl
   ·exact h hn
  ·exact entry_some ho2 (e := ⟨nm,i⟩) ((mem_ins ho).2 (.inl ⟨hi,rfl⟩))
 ·rw [if_neg hx]
  rcases entry_ways n x with ⟨e,h1,h2,h3⟩ | ⟨h1,h3⟩
  ·rw [h3,← h2]
   exact entry_some ho2 ((mem_ins ho).2 (.inr ⟨h1,by rw [h2]; exact hx⟩))
  ·rw [h3]
   refine entry_none (fun e he hn => ?_)
   rcases (mem_ins ho).1 he with ⟨_,h⟩ | ⟨h,_⟩
   ·rw [h] at hn; exact hx hn.symm
   ·exact h1 e h hn
theorem entF_named (h : Nod F) (hd : nodeM F d = some n) (ho : Ord n.ents) (c : Int) (x : ByteArray) : entF (namedM F d nm i) c x = if c = d ∧ x = nm then i else entF F c x := by
 unfold entF
 rw [node_named h hd]
 by_cases hc : c = d
 ·subst hc
  rw [if_pos rfl,hd]
  dsimp only
  rw [entry_ins ho]
  by_cases hx : x = nm
  ·rw [if_pos hx,if_pos ⟨rfl,hx⟩]
  ·rw [if_neg hx,if_neg (fun q => hx q.2)]
 ·rw [if_neg hc,if_neg (fun q => hc q.1)]
theorem entF_linked (h : Nod F) (i y c : Int) (x : ByteArray) : entF (linkedM F i y) c x = entF F c x := by
 cases hn : nodeM F i with
 | none => unfold linkedM; rw [hn]
 | some n =>
   unfold entF
   rw [node_linked h hn]
   by_cases hc : c = i
   ·subst hc
    rw [if_pos rfl,hn]
    rfl
   ·rw [if_neg hc]
theorem entF_wo (h : Nod F) (i c : Int) (x : ByteArray) : entF (withoutM F i) c x = if c = i then 0 else entF F c x := by
 unfold entF
 rw [node_wo h]
 by_cases hc : c = i
 ·rw [if_pos hc,if_pos hc]
 ·rw [if_neg hc,if_neg hc]
theorem entF_new (h : Nod F) (hn : nodeM F n.ino = none) (he : n.ents = []) (c : Int) (x : ByteArray) : entF (withM F n) c x = entF F c x := by
 unfold entF
 rw [node_new h hn]
 by_cases hc : c = n.ino
 ·rw [if_pos hc,hc,hn]
  exact entry_none (fun e h => by rw [he] at h; cases h)
 ·rw [if_neg hc]
theorem dir_named (h : Nod F) (hd : nodeM F d = some n) (j : Int) : dirB (namedM F d nm i) j = dirB F j := by
 unfold dirB
 rw [node_named h hd]
 by_cases hj : j = d
 ·subst hj
  rw [if_pos rfl,hd]
 ·rw [if_neg hj]
theorem dir_linked (h : Nod F) (i y j : Int) : dirB (linkedM F i y) j = dirB F j := by
 cases hn : nodeM F i with
 | none => unfold linkedM; rw [hn]
 | some n =>
   unfold dirB
   rw [node_linked h hn]
   by_cases hj : j = i
   ·subst hj
    rw [if_pos rfl,hn]
   ·rw [if_neg hj]
theorem dir_wo (h : Nod F) (i j : Int) : dirB (withoutM F i) j = if j = i then false else dirB F j := by
 unfold dirB
 rw [node_wo h]
 by_cases hj : j = i
 ·rw [if_pos hj,if_pos hj]
 ·rw [if_neg hj,if_neg hj]
theorem dir_new (h : Nod F) (hn : nodeM F n.ino = none) (j : Int) : dirB (withM F n) j = if j = n.ino then decide (n.kind = 2) else dirB F j := by
 unfold dirB
 rw [node_new h hn]
 by_cases hj : j = n.ino
 ·rw [if_pos hj,if_pos hj]
 ·rw [if_neg hj,if_neg hj]
theorem dir_mem (h : dirB F i = true) : ∃ n,nodeM F i = some n ∧ n.kind = 2 := by
 unfold dirB at h
 split at h
 ·rename_i n hn
  exact ⟨n,hn,by simpa using h⟩
 ·cases h
end
inductive Pth (F : Fs) : Int → List ByteArray → Prop
 | root : Pth F 1 []
 | step {d : Int} {l : List ByteArray} (p : Pth F d l) (nm : ByteArray) (h : entF F d nm ≠ 0) : Pth F (entF F d nm) (l ++ [nm])
theorem Pth.inv {F : Fs} {i : Int} {l : List ByteArray} (p : Pth F i l) : (i = 1 ∧ l = []) ∨ ∃ d nm l0,l = l0 ++ [nm] ∧ Pth F d l0 ∧ entF F d nm = i ∧ i ≠ 0 := by
 cases p with
 | root => exact .inl ⟨rfl,rfl⟩
 | step q nm h => exact .inr ⟨_,nm,_,rfl,q,rfl,h⟩
theorem Pth.to {F : Fs} {d i : Int} {l : List ByteArray} (p : Pth F d l) {nm : ByteArray} (h : entF F d nm = i) (h0 : i ≠ 0) : Pth F i (l ++ [nm]) := by
 have := Pth.step p nm (by rw [h]; exact h0)
 rwa [h] at this
theorem snoc_inj {a b : List ByteArray} {x y : ByteArray} (h : a ++ [x] = b ++ [y]) : a = b ∧ x = y := by
 have h2 := List.append_inj' h rfl
 exact ⟨h2.1,by injection h2.2⟩
theorem Pth.det {F : Fs} {i j : Int} {l : List ByteArray} (p : Pth F i l) (q : Pth F j l) : i = j := by
 induction p generalizing j with
 | root =>
   rcases q.inv with ⟨h,_⟩ | ⟨_,_,_,h,_⟩
   ·exact h.symm
   ·simp at h
 | step p nm h ih =>
   rcases q.inv with ⟨_,h2⟩ | ⟨d,m,l0,h2,h3,h4,_⟩
   ·simp at h2
   ·obtain ⟨rfl,rfl⟩ := snoc_inj h2
    rw [← h4,ih h3]
theorem Pth.pre {F : Fs} {j : Int} {l : List ByteArray} (p : Pth F j l) : ∀ {a r : List ByteArray},l = a ++ r → ∃ i,Pth F i a ∧ (r = [] → i = j) ∧ (r ≠ [] → ∃ nm,entF F i nm ≠ 0) := by
 induction p with
 | root =>
   intro a r h
   have ha : a = [] ∧ r = [] := by simpa using h.symm
   rw [ha.1]
   exact ⟨1,.root,fun _ => rfl,fun h => absurd ha.2 h⟩
 | step p nm h0 ih =>
   rename_i d l
   intro a r h
   rcases List.eq_nil_or_concat r with rfl | ⟨r0,x,rfl⟩
   ·rw [List.append_nil] at h
    subst h
    exact ⟨_,p.step nm h0,fun _ => rfl,fun h => absurd rfl h⟩
   ·rw [List.concat_eq_append,← List.append_assoc] at h
    obtain ⟨h1,rfl⟩ := snoc_inj h
    obtain ⟨i,h2,h3,h4⟩ := ih h1
    refine ⟨i,h2,fun h => by simp at h,fun _ => ?_⟩
    by_cases hr : r0 = []
    ·rw [h3 hr]
     exact ⟨_,h0⟩
    ·exact h4 hr
section
variable {F : Fs} {π : Int → Int}
theorem entF_ok (w : Wf F π) {d : Int} {nm : ByteArray} (h : entF F d nm ≠ 0) : dirB F d = true ∧ (∃ m,nodeM F (entF F d nm) = some m) ∧ entF F d nm ≠ 1 := by
 obtain ⟨n,e,hn,he,hnm,hei⟩ := entF_mem h
 have hm := node_mem hn
 refine ⟨?_,?_,fun h1 => ?_⟩
 ·rw [dir_some hn]
  rcases w.kind n hm.1 with k | k
  ·exact decide_eq_true k
  ·rw [k.2] at he; cases he
 ·rw [← hei]
  exact w.goes n hm.1 e he (by rw [hei]; exact h)
 ·obtain ⟨r,hr,hrk⟩ := w.root
  have h2 := w.cnt r (node_mem hr).1
  have h3 : 0 < cnt F 1 := cnt_pos.2 ⟨n,hm.1,e,he,by rw [hei,h1]⟩
  rw [(node_mem hr).2] at h2
  unfold wantC zro at h2
  rw [if_pos (node_mem hr).2] at h2
  omega
theorem ent_uq (w : Wf F π) {c d : Int} {x y : ByteArray} {i : Int} (hi : dirB F i = true) (h1 : entF F c x = i) (h2 : entF F d y = i) (h0 : i ≠ 0) : c = d ∧ x = y := by
 obtain ⟨n,e,hn,he,hnm,hei⟩ := entF_mem (F := F) (d := c) (nm := x) (by rw [h1]; exact h0)
 obtain ⟨m,g,hm,hg,hgm,hgi⟩ := entF_mem (F := F) (d := d) (nm := y) (by rw [h2]; exact h0)
 obtain ⟨z,hz,hzk⟩ := dir_mem hi
 have hc := w.cnt z (node_mem hz).1
 rw [(node_mem hz).2] at hc
 have hw : wantC z ≤ 1 := by
  unfold wantC
  rw [if_pos hzk]
  split <;> omega
 have hzr : zro i = 0 := rfl
 obtain ⟨a,b⟩ := cnt_one w.nod (i := i) (by omega) (node_mem hn).1 (node_mem hm).1 he hg (by rw [hei,h1]) (by rw [hgi,h2])
 exact ⟨by rw [← (node_mem hn).2,← (node_mem hm).2,a],by rw [← hnm,← hgm,b]⟩
theorem Pth.uq (w : Wf F π) {i : Int} {l l' : List ByteArray} (p : Pth F i l) (hi : dirB F i = true) (q : Pth F i l') : l = l' := by
 induction p generalizing l' with
 | root =>
   rcases q.inv with ⟨_,h⟩ | ⟨d,nm,l0,h,h1,h2,h3⟩
   ·exact h.symm
   ·exact absurd h2 (entF_ok w (by rw [h2]; exact h3)).2.2
 | step p nm h ih =>
   rcases q.inv with ⟨h1,_⟩ | ⟨d,m,l0,h1,h2,h3,h4⟩
   ·exact absurd h1 (entF_ok w h).2.2
   ·obtain ⟨rfl,rfl⟩ := ent_uq w hi rfl h3 h4
    rw [h1,ih (entF_ok w h).1 h2]
theorem Pth.node (w : Wf F π) {i : Int} {l : List ByteArray} (p : Pth F i l) : ∃ n,nodeM F i = some n := by
 rcases p.inv with ⟨rfl,_⟩ | ⟨d,nm,_,_,_,h,h0⟩
 ·obtain ⟨r,hr,_⟩ := w.root
  exact ⟨r,hr⟩
 ·rw [← h]
  exact (entF_ok w (by rw [h]; exact h0)).2.1
theorem fndl_pth (w : Wf F π) : ∀ (l : List ByteArray) {s t : Spt} {l0 : List ByteArray},l ≠ [] → (s.ino ≠ 0 → Pth F s.ino l0) → fndL F s l = (t,0) → ∃ r,l = r ++ [t.name] ∧ Pth F t.dir (l0 ++ r) ∧ dirB F t.dir = true ∧ entF F t.dir t.name = t.ino
 | [],_,_,_,h,_,_ => absurd rfl h
 | nm :: r,s,t,l0,_,hp,h => by
   unfold fndL at h
   by_cases h0 : s.ino = 0
   ·rw [if_pos h0] at h
    injection h with _ h
    cases h
   rw [if_neg h0] at h
   have p := hp h0
   obtain ⟨n,hn⟩ := p.node w
   rw [hn] at h
   dsimp only at h
   by_cases hk : n.kind ≠ 2
   ·rw [if_pos hk] at h
    injection h with _ h
    cases h
   rw [if_neg hk] at h
   have he : entF F s.ino nm = entryM n nm := entF_some hn nm
   cases r with
   | nil =>
     unfold fndL at h
     injection h with h _
     subst h
     exact ⟨[],rfl,by rw [List.append_nil]; exact p,by rw [dir_some hn]; exact decide_eq_true (by omega),he⟩
   | cons nm2 r2 =>
     obtain ⟨q,h1,h2,h3,h4⟩ := fndl_pth w (nm2 :: r2) (s := ⟨s.ino,nm,entryM n nm⟩) (t := t) (l0 := l0 ++ [nm]) (by simp) (fun hq => p.to he hq) h
     exact ⟨nm :: q,by rw [h1]; rfl,by simpa using h2,h3,h4⟩
theorem fnd_pth (w : Wf F π) {path : ByteArray} {s : Spt} (h : fndM F path = (s,0)) (h1 : s.ino ≠ 1) : ∃ r,(spl path).1 = r ++ [s.name] ∧ Pth F s.dir r ∧ dirB F s.dir = true ∧ entF F s.dir s.name = s.ino := by
 unfold fndM at h
 by_cases he : (spl path).2 ≠ 0
 ·rw [if_pos he] at h
  injection h with _ h
  exact absurd h he
 rw [if_neg he] at h
 by_cases hl : (spl path).1 = []
 ·rw [hl] at h
  unfold fndL at h
  injection h with h _
  subst h
  exact absurd rfl h1
 obtain ⟨r,h2,h3,h4,h5⟩ := fndl_pth w (spl path).1 (s := ⟨0,NE,1⟩) (t := s) (l0 := []) hl (fun _ => .root) h
 exact ⟨r,h2,h3,h4,h5⟩
def Ac (F : Fs) : Prop := ∀ i,dirB F i = true → ∃ l,Pth F i l
theorem Pth.more {F' : Fs} (h : ∀ d nm,entF F d nm ≠ 0 → entF F' d nm = entF F d nm) {i : Int} {l : List ByteArray} (p : Pth F i l) : Pth F' i l := by
 induction p with
 | root => exact .root
 | step p nm h0 ih => exact ih.to (h _ _ h0) h0
theorem Pth.cut {F' : Fs} {d : Int} {nm : ByteArray} {i : Int} (hi : entF F d nm = i) (hno : ∀ x,entF F i x = 0) (h : ∀ c x,entF F' c x = if c = d ∧ x = nm then 0 else entF F c x) {j : Int} {l : List ByteArray} (p : Pth F j l) (hj : j ≠ i) : Pth F' j l := by
 induction p with
 | root => exact .root
 | step p x h0 ih =>
   rename_i c l
   refine (ih (fun e => h0 (by rw [e]; exact hno x))).to ?_ h0
   rw [h,if_neg]
   rintro ⟨rfl,rfl⟩
   exact hj hi
theorem Ac.cut {F' : Fs} (a : Ac F) {d : Int} {nm : ByteArray} {i : Int} (hi : entF F d nm = i) (hno : ∀ x,entF F i x = 0) (h : ∀ c x,entF F' c x = if c = d ∧ x = nm then 0 else entF F c x) (hd : ∀ j,dirB F' j = true → dirB F j = true ∧ j ≠ i) : Ac F' := fun j hj => by
 obtain ⟨l,p⟩ := a j (hd j hj).1
 exact ⟨l,p.cut hi hno h (hd j hj).2⟩
structure Mv (F F' : Fs) (sd : Int) (sn : ByteArray) (td : Int) (tn : ByteArray) (i : Int) : Prop where
 at_ : entF F sd sn = i
 no : entF F td tn = 0
 i0 : i ≠ 0
 ent : ∀ c x,entF F' c x = if c = td ∧ x = tn then i else if c = sd ∧ x = sn then 0 else entF F c x
theorem Mv.avoid {F' : Fs} {sd td i : Int} {sn tn : ByteArray} (m : Mv F F' sd sn td tn i) {j : Int} {l : List ByteArray} (p : Pth F j l) (h : ∀ a,Pth F i a → ¬ a <+: l) : Pth F' j l := by
 induction p with
 | root => exact .root
 | step p x h0 ih =>
   rename_i c l
   refine (ih (fun a ha hl => h a ha (hl.trans (List.prefix_append _ _)))).to ?_ h0
   rw [m.ent,if_neg,if_neg]
   ·rintro ⟨rfl,rfl⟩
    exact h _ (by have := p.step x h0; rwa [m.at_] at this) (List.prefix_refl _)
   ·rintro ⟨rfl,rfl⟩
    exact h0 m.no
theorem Mv.moved {F' : Fs} {sd td i : Int} {sn tn : ByteArray} (m : Mv F F' sd sn td tn i) {q : List ByteArray} (ht : Pth F' td q) {j : Int} {l : List ByteArray} (p : Pth F j l) : ∃ l',Pth F' j l' := by
 induction p with
 | root => exact ⟨[],.root⟩
 | step p x h0 ih =>
   rename_i c l
   obtain ⟨l',p'⟩ := ih
   by_cases h1 : c = sd ∧ x = sn
   ·obtain ⟨rfl,rfl⟩ := h1
    refine ⟨q ++ [tn],ht.to ?_ h0⟩
    rw [m.ent,if_pos ⟨rfl,rfl⟩,m.at_]
   ·refine ⟨l' ++ [x],p'.to ?_ h0⟩
    rw [m.ent,if_neg,if_neg h1]
    rintro ⟨rfl,rfl⟩
    exact h0 m.no
theorem off_way (w : Wf F π) {i td : Int} {sd : Int} {sn tn : ByteArray} {p q : List ByteArray} (hp : Pth F sd p) (hi : entF F sd sn = i) (h0 : i ≠ 0) (hq : Pth F td q) (htd : dirB F td = true) (hu : dirB F i = true → under (p ++ [sn]) (q ++ [tn]) = false) : ∀ a,Pth F i a → ¬ a <+: q := by
 rintro a ha ⟨r,hr⟩
 have hdi : dirB F i = true := by
  obtain ⟨c,h1,h2,h3⟩ := hq.pre (a := a) (r := r) hr.symm
  have hc := ha.det h1
  subst hc
  by_cases hr0 : r = []
  ·rw [h2 hr0]; exact htd
  ·obtain ⟨x,hx⟩ := h3 hr0
   exact (entF_ok w hx).1
 have h1 := ha.uq w hdi (hp.to hi h0)
 have h2 := hu hdi
 rw [← h1,← hr] at h2
 rw [List.append_assoc,under_app] at h2
 simp at h2
end
end Go.Proofs.YtfalhnomhidkcaaGreatDoor.DirsT