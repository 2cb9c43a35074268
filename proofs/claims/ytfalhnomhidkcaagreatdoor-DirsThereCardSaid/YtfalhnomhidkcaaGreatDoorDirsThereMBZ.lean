import Derived.Test.YtfalhnomhidkcaaGreatDoorDirsThereMBY
import Derived.Test.YtfalhnomhidkcaaGreatDoorSq
import Derived.Test.YtfalhnomhidkcaaGreatDoorDirsRc
import Derived.Test.YtfalhnomhidkcaaGreatDoorDirsThereMBV
import Derived.Test.YtfalhnomhidkcaaGreatDoorArgs
import Derived.Test.YtfalhnomhidkcaaGreatDoorDirsRa
import Derived.Handed
import Derived.SizedLaws
set_option linter.unusedVariables false
set_option linter.unusedSimpArgs false
namespace Go.Proofs.YtfalhnomhidkcaaGreatDoor.DirsTa
open Byte PackM KeysM TreeM ViewM ViewKm NamesM WalkM WalkF WalkKm DirsM DirsV DirsW DirsX DirsY DirsS DirsZ DirsZa DirsZb DirsT
open NodeM hiding gk
def Rea (F : Fs) (l : List ByteArray) : Prop := ∃ i,Pth F i l
def Acs (F : Fs) (V : Int × List Wrt) (M : Int × Fs) : Prop := Ac M.2 ∧ (V.2 = [] ∨ ∃ l,¬ (Rea F l ↔ Rea M.2 l))
theorem rea_snoc {F : Fs} {d : Int} {r : List ByteArray} {nm : ByteArray} (p : Pth F d r) : Rea F (r ++ [nm]) ↔ entF F d nm ≠ 0 := by
 constructor
 ·rintro ⟨i,q⟩
  rcases q.inv with ⟨_,h⟩ | ⟨c,x,l0,h1,h2,h3,h4⟩
  ·simp at h
  ·obtain ⟨rfl,rfl⟩ := snoc_inj h1
   rw [p.det h2,h3]
   exact h4
 ·intro h
  exact ⟨_,p.step nm h⟩
section
variable {F : Fs} {π : Int → Int} {L : List Pr} {k : Nat}
theorem Acs.err (a : Ac F) {e e' : Int} : Acs F (e,[]) (e',F) := ⟨a,.inl rfl⟩
theorem make_ac (h : St F π L k) (a : Ac F) (path : ByteArray) {kind ino : Int} (h1 : 2 ≤ ino) (hi : nodeM F ino = none) : Acs F (makV L path kind ino) (makeM F path kind ino) := by
 obtain ⟨hf,hled⟩ := h.sim.find path
 unfold makV makeM
 rw [hf]
 obtain ⟨⟨s,er⟩,hR⟩ : ∃ R,fndM F path = R := ⟨_,rfl⟩
 rw [hR] at hled ⊢
 dsimp only at hled ⊢
 by_cases he : er ≠ 0
 ·rw [if_pos he,if_pos he]; exact .err a
 rw [if_neg he,if_neg he]
 have hsi : (spotOf F π s).ino = s.ino := rfl
 rw [hsi]
 by_cases h0 : s.ino ≠ 0
 ·rw [if_pos h0,if_pos h0]; exact .err a
 rw [if_neg h0,if_neg h0]
 have he0 : er = 0 := by omega
 rw [he0] at hR
 obtain ⟨r,_,hp,hdd,hent⟩ := fnd_pth h.sim.wf hR (by omega)
 have h00 : s.ino = 0 := by omega
 rw [h00] at hent
 obtain ⟨d,hd,hdk⟩ := dir_mem hdd
 have hdm := node_mem hd
 have hi' : nodeM F (newNd kind ino).ino = none := by rw [new_ino]; exact hi
 have hn1 := nod_new h.ws.nod (node_none hi')
 have hdne : s.dir ≠ ino := fun e => by rw [e,hi] at hd; cases hd
 have hd1 : nodeM (withM F (newNd kind ino)) s.dir = some d := by rw [node_new h.ws.nod hi',new_ino,if_neg hdne]; exact hd
 have ho := h.ws.ord d hdm.1
 have key : ∀ (A : Fs) (d' : Nd),makeAt F s kind ino = namedM A s.dir s.name ino → Nod A → nodeM A s.dir = some d' → Ord d'.ents → (∀ c x,entF A c x = entF F c x) → (∀ j,dirB A j = true → j = ino ∨ dirB F j = true) → Acs F (0,[saveP 0 0 0 0 0]) (0,makeAt F s kind ino) := by
  intro A d' e1 nA dA oA eA bA
  rw [e1]
  have hE : ∀ c x,entF (namedM A s.dir s.name ino) c x = if c = s.dir ∧ x = s.name then ino else entF F c x := fun c x => by rw [entF_named nA dA oA,eA]
  have hmore : ∀ c x,entF F c x ≠ 0 → entF (namedM A s.dir s.name ino) c x = entF F c x := fun c x hx => by
   rw [hE,if_neg]
   rintro ⟨rfl,rfl⟩
   exact hx hent
  refine ⟨fun j hj => ?_,.inr ⟨r ++ [s.name],?_⟩⟩
  ·rw [dir_named nA dA] at hj
   rcases bA j hj with rfl | hj
   ·exact ⟨r ++ [s.name],(hp.more hmore).to (by rw [hE,if_pos ⟨rfl,rfl⟩]) (by omega)⟩
   ·obtain ⟨l,p⟩ := a j hj
    exact ⟨l,p.more hmore⟩
  ·rw [rea_snoc hp]
   show ¬ (_ ↔ Rea (namedM A s.dir s.name ino) _)
   rw [rea_snoc (hp.more hmore),hE,if_pos ⟨rfl,rfl⟩,hent]
   exact fun q => q.2 (by omega) rfl
 have fin : Acs F (0,[saveP 0 0 0 0 0]) (0,makeAt F s kind ino) := by
  by_cases hk1 : kind = 1
  ·refine key (withM F (newNd kind ino)) d ?_ hn1 hd1 ho (entF_new h.ws.nod hi' (new_ents _ _)) (fun j hj => ?_)
   ·subst hk1; rfl
   ·rw [dir_new h.ws.nod hi',new_ino] at hj
    by_cases hji : j = ino
    ·exact .inl hji
    ·rw [if_neg hji] at hj; exact .inr hj
  ·refine key (linkedM (withM F (newNd kind ino)) s.dir 1) { d with links := d.links + 1 } ?_ (nod_linked hn1 hd1) (by rw [node_linked hn1 hd1,if_pos rfl]) ho (fun c x => by rw [entF_linked hn1,entF_new h.ws.nod hi' (new_ents _ _)]) (fun j hj => ?_)
   ·unfold makeAt newNd
    rw [if_neg hk1,if_neg hk1]
   ·rw [dir_linked hn1,dir_new h.ws.nod hi',new_ino] at hj
    by_cases hji : j = ino
    ·exact .inl hji
    ·rw [if_neg hji] at hj; exact .inr hj
 refine ⟨fin.1,.inr ?_⟩
 rcases fin.2 with q | q
 ·cases q
 ·exact q
structure Gon (F F' : Fs) (s : Spt) : Prop where
 ent : ∀ c x,entF F' c x = if c = s.dir ∧ x = s.name then 0 else entF F c x
 dir : ∀ j,dirB F' j = true → dirB F j = true ∧ j ≠ s.ino
 no : ∀ x,entF F s.ino x = 0
theorem sit_ent (h : St F π L k) {s : Spt} {d n : Nd} {e : En} (hs : Sit F s d n e) : entF F s.dir s.name = s.ino := by
 rw [← hs.en,← hs.ei]
 exact entF_of hs.dir (h.ws.ord d (node_mem hs.dir).1) hs.me
theorem no_ents {i : Int} {n : Nd} (hn : nodeM F i = some n) (he : n.ents = []) (x : ByteArray) : entF F i x = 0 := by
 rw [entF_some hn]
 exact entry_none (fun e h => by rw [he] at h; cases h)
theorem rem_gon (h : St F π L k) {s : Spt} {d n : Nd} {e : En} (hs : Sit F s d n e) (hM : (removeAt F s).1 = 0) : Gon F (removeAt F s).2 s := by
 unfold removeAt at hM ⊢
 rw [hs.node] at hM ⊢
 dsimp only at hM ⊢
 by_cases hk : n.kind ≠ 2
 ·rw [if_pos hk] at hM; cases hM
 rw [if_neg hk] at hM ⊢
 by_cases hl : n.ents.length ≠ 0
 ·rw [if_pos hl] at hM; cases hM
 rw [if_neg hl]
 have he : n.ents = [] := List.eq_nil_of_length_eq_zero (by omega)
 have hne := ne_dir hs he
 have nA := nod_wo h.ws.nod s.ino
 have dA : nodeM (withoutM F s.ino) s.dir = some d := by rw [node_wo h.ws.nod,if_neg (fun q => hne q.symm)]; exact hs.dir
 have nB := nod_linked (by_ := -1) nA dA
 have dB : nodeM (linkedM (withoutM F s.ino) s.dir (-1)) s.dir = some { d with links := d.links + -1 } := by rw [node_linked nA dA,if_pos rfl]
 have no := no_ents hs.node he
 refine ⟨fun c x => ?_,fun j hj => ?_,no⟩
 ·show entF (namedM _ _ _ _) c x = _
  rw [entF_named nB dB (h.ws.ord d (node_mem hs.dir).1),entF_linked nA,entF_wo h.ws.nod]
  split
  ·rfl
  ·split
   ·rename_i q; rw [q,no]
   ·rfl
 ·have hj2 : dirB (namedM _ _ _ _) j = true := hj
  rw [dir_named nB dB,dir_linked nA,dir_wo h.ws.nod] at hj2
  by_cases q : j = s.ino
  ·rw [if_pos q] at hj2; cases hj2
  ·rw [if_neg q] at hj2; exact ⟨hj2,q⟩
theorem unl_gon (h : St F π L k) {s : Spt} {d n : Nd} {e : En} (hs : Sit F s d n e) (hM : (unlinkAt F s).1 = 0) : Gon F (unlinkAt F s).2 s := by
 unfold unlinkAt at hM ⊢
 rw [hs.node] at hM ⊢
 dsimp only at hM ⊢
 by_cases hk : n.kind = 2
 ·rw [if_pos hk] at hM; cases hM
 rw [if_neg hk]
 have he : n.ents = [] := by
  rcases h.sim.wf.kind n (node_mem hs.node).1 with q | q
  ·exact absurd q hk
  ·exact q.2
 have hne := ne_dir hs he
 have no := no_ents hs.node he
 have ho := h.ws.ord d (node_mem hs.dir).1
 have hfd : dirB F s.ino = false := by rw [dir_some hs.node]; exact decide_eq_false hk
 have key : ∀ A : Fs,Nod A → nodeM A s.dir = some d → (∀ c x,entF A c x = entF F c x) → (∀ j,dirB A j = true → dirB F j = true) → Gon F (namedM A s.dir s.name 0) s := fun A nA dA eA bA =>
  ⟨fun c x => by rw [entF_named nA dA ho,eA],fun j hj => by
    rw [dir_named nA dA] at hj
    have := bA j hj
    exact ⟨this,fun q => by rw [q,hfd] at this; cases this⟩,no⟩
 show Gon F (namedM _ _ _ _) s
 split
 ·refine key _ (nod_wo h.ws.nod _) (by rw [node_wo h.ws.nod,if_neg (fun q => hne q.symm)]; exact hs.dir) (fun c x => ?_) (fun j hj => ?_)
  ·rw [entF_wo h.ws.nod]
   split
   ·rename_i q; rw [q,no]
   ·rfl
  ·rw [dir_wo h.ws.nod] at hj
   split at hj
   ·cases hj
   ·exact hj
 ·refine key _ (nod_linked h.ws.nod hs.node) (by rw [node_linked h.ws.nod hs.node,if_neg (fun q => hne q.symm)]; exact hs.dir) (fun c x => entF_linked h.ws.nod _ _ _ _) (fun j hj => ?_)
  rw [dir_linked h.ws.nod] at hj
  exact hj
theorem Gon.ac {F' : Fs} (h : St F π L k) (a : Ac F) {s : Spt} {d n : Nd} {e : En} (hs : Sit F s d n e) (g : Gon F F' s) : Ac F' := a.cut (sit_ent h hs) g.no g.ent g.dir
theorem Gon.chg {F' : Fs} (h : St F π L k) {s : Spt} {d n : Nd} {e : En} (hs : Sit F s d n e) (g : Gon F F' s) {r : List ByteArray} (p : Pth F s.dir r) : ¬ (Rea F (r ++ [s.name]) ↔ Rea F' (r ++ [s.name])) := by
 have he := sit_ent h hs
 have h0 := hs.i0
 have p' : Pth F' s.dir r := p.cut he g.no g.ent (fun q => by
  have := g.no s.name
  rw [← q,he] at this
  omega)
 rw [rea_snoc p,rea_snoc p',g.ent,if_pos ⟨rfl,rfl⟩,he]
 exact fun q => q.1 (by omega) rfl
theorem rem_no {s : Spt} (hM : (removeAt F s).1 ≠ 0) : (removeAt F s).2 = F := by
 unfold removeAt at hM ⊢
 split
 ·rfl
 ·split
  ·rfl
  ·split
   ·rfl
   ·rename_i h1 h2 h3
    rw [h1] at hM
    dsimp only at hM
    rw [if_neg h2,if_neg h3] at hM
    exact absurd rfl hM
theorem unl_no {s : Spt} (hM : (unlinkAt F s).1 ≠ 0) : (unlinkAt F s).2 = F := by
 unfold unlinkAt at hM ⊢
 split
 ·rfl
 ·split
  ·rfl
  ·rename_i h1 h2
   rw [h1] at hM
   dsimp only at hM
   rw [if_neg h2] at hM
   exact absurd rfl hM
theorem rmd_ac (h : St F π L k) (a : Ac F) (path : ByteArray) : Acs F (rmdV L path) (removeM F path) := by
 obtain ⟨hf,hled⟩ := h.sim.find path
 unfold rmdV removeM
 rw [hf]
 obtain ⟨⟨s,er⟩,hR⟩ : ∃ R,fndM F path = R := ⟨_,rfl⟩
 rw [hR] at hled ⊢
 dsimp only at hled ⊢
 by_cases he : er ≠ 0
 ·rw [if_pos he,if_pos he]; exact .err a
 rw [if_neg he,if_neg he]
 have hsi : (spotOf F π s).ino = s.ino := rfl
 rw [hsi]
 by_cases h1 : s.ino = 1
 ·rw [if_pos h1,if_pos h1]; exact .err a
 rw [if_neg h1,if_neg h1]
 by_cases h0 : s.ino = 0
 ·rw [if_pos h0,if_pos h0]; exact .err a
 rw [if_neg h0,if_neg h0]
 obtain ⟨d,n,e,hs⟩ := sit_of h (hled (by omega)) h0 h1
 have he0 : er = 0 := by omega
 rw [he0] at hR
 obtain ⟨r,_,hp,_,_⟩ := fnd_pth h.sim.wf hR h1
 by_cases hM : (removeAt F s).1 = 0
 ·have g := rem_gon h hs hM
  exact ⟨g.ac h a hs,.inr ⟨_,g.chg h hs hp⟩⟩
 ·have c := rem_clr h hs
  refine ⟨by rw [rem_no hM]; exact a,.inl (c.no (by rw [c.er]; exact hM)).1⟩
theorem ulk_ac (h : St F π L k) (a : Ac F) (path : ByteArray) : Acs F (ulkV L path) (unlinkM F path) := by
 obtain ⟨hf,hled⟩ := h.sim.find path
 unfold ulkV unlinkM
 rw [hf]
 obtain ⟨⟨s,er⟩,hR⟩ : ∃ R,fndM F path = R := ⟨_,rfl⟩
 rw [hR] at hled ⊢
 dsimp only at hled ⊢
 by_cases he : er ≠ 0
 ·rw [if_pos he,if_pos he]; exact .err a
 rw [if_neg he,if_neg he]
 have hsi : (spotOf F π s).ino = s.ino := rfl
 rw [hsi]
 by_cases h0 : s.ino = 0
 ·rw [if_pos h0,if_pos h0]; exact .err a
 rw [if_neg h0,if_neg h0]
 by_cases h1 : s.ino = 1
 ·obtain ⟨r,hr,hrk⟩ := h.sim.wf.root
  have e1 : unlinkAt F s = (13,F) := by unfold unlinkAt; rw [h1,hr]; dsimp only; rw [if_pos hrk]
  have e2 : unlV (spotOf F π s) = (13,[]) := by
   unfold unlV
   rw [spot_k h (by rw [h1]; exact hr),show (inoL π r).k = r.kind from rfl,if_pos (by omega)]
  rw [e1,e2]
  exact .err a
 obtain ⟨d,n,e,hs⟩ := sit_of h (hled (by omega)) h0 h1
 have he0 : er = 0 := by omega
 rw [he0] at hR
 obtain ⟨r,_,hp,_,_⟩ := fnd_pth h.sim.wf hR h1
 by_cases hM : (unlinkAt F s).1 = 0
 ·have g := unl_gon h hs hM
  exact ⟨g.ac h a hs,.inr ⟨_,g.chg h hs hp⟩⟩
 ·have c := unl_clr h hs
  refine ⟨by rw [unl_no hM]; exact a,.inl (c.no (by rw [c.er]; exact hM)).1⟩
theorem lnk_ac (h : St F π L k) (a : Ac F) (old path : ByteArray) : Acs F (lnkV L old path) (linkM F old path) := by
 obtain ⟨hf,hled⟩ := h.sim.find old
 obtain ⟨hf2,hled2⟩ := h.sim.find path
 unfold lnkV linkM
 rw [hf,hf2]
 obtain ⟨⟨s,er⟩,hR⟩ : ∃ R,fndM F old = R := ⟨_,rfl⟩
 obtain ⟨⟨t,er2⟩,hR2⟩ : ∃ R,fndM F path = R := ⟨_,rfl⟩
 rw [hR] at hled ⊢
 rw [hR2] at hled2 ⊢
 dsimp only at hled hled2 ⊢
 by_cases he : er ≠ 0
 ·rw [if_pos he,if_pos he]; exact .err a
 rw [if_neg he,if_neg he]
 have hsi : (spotOf F π s).ino = s.ino := rfl
 have hti : (spotOf F π t).ino = t.ino := rfl
 rw [hsi,hti]
 by_cases h0 : s.ino = 0
 ·rw [if_pos h0,if_pos h0]; exact .err a
 rw [if_neg h0,if_neg h0]
 obtain ⟨n,hn⟩ := (hled (by omega)).at_.resolve_left h0
 rw [hn,spot_k h hn]
 dsimp only
 rw [show (inoL π n).k = n.kind from rfl,show (inoL π n).l = n.links from rfl]
 have hkk := h.ws.kind n (node_mem hn).1
 by_cases hk2 : n.kind = 2
 ·rw [if_pos (show n.kind ≠ 1 by omega),if_pos hk2]; exact .err a
 rw [if_neg (show ¬ n.kind ≠ 1 by omega),if_neg hk2]
 by_cases he2 : er2 ≠ 0
 ·rw [if_pos he2,if_pos he2]; exact .err a
 rw [if_neg he2,if_neg he2]
 by_cases h02 : t.ino ≠ 0
 ·rw [if_pos h02,if_pos h02]; exact .err a
 rw [if_neg h02,if_neg h02]
 by_cases hl : 1000 ≤ n.links
 ·rw [if_pos hl,if_pos hl]; exact .err a
 rw [if_neg hl,if_neg hl]
 have he0 : er2 = 0 := by omega
 rw [he0] at hR2
 obtain ⟨r,_,hp,hdd,hent⟩ := fnd_pth h.sim.wf hR2 (by omega)
 have h00 : t.ino = 0 := by omega
 rw [h00] at hent
 obtain ⟨d,hd,hdk⟩ := dir_mem hdd
 have nA := nod_linked (by_ := 1) h.ws.nod hn
 have hne : t.dir ≠ s.ino := fun q => by
  rw [q,hn] at hd
  injection hd with hd
  exact hk2 (by rw [hd]; exact hdk)
 have dA : nodeM (linkedM F s.ino 1) t.dir = some d := by rw [node_linked h.ws.nod hn,if_neg hne]; exact hd
 have hE : ∀ c x,entF (namedM (linkedM F s.ino 1) t.dir t.name s.ino) c x = if c = t.dir ∧ x = t.name then s.ino else entF F c x := fun c x => by rw [entF_named nA dA (h.ws.ord d (node_mem hd).1),entF_linked h.ws.nod]
 have hmore : ∀ c x,entF F c x ≠ 0 → entF (namedM (linkedM F s.ino 1) t.dir t.name s.ino) c x = entF F c x := fun c x hx => by
  rw [hE,if_neg]
  rintro ⟨rfl,rfl⟩
  exact hx hent
 refine ⟨fun j hj => ?_,.inr ⟨r ++ [t.name],?_⟩⟩
 ·have hj2 : dirB (namedM (linkedM F s.ino 1) t.dir t.name s.ino) j = true := hj
  rw [dir_named nA dA,dir_linked h.ws.nod] at hj2
  obtain ⟨l,p⟩ := a j hj2
  exact ⟨l,p.more hmore⟩
 ·rw [rea_snoc hp]
  show ¬ (_ ↔ Rea (namedM (linkedM F s.ino 1) t.dir t.name s.ino) _)
  rw [rea_snoc (hp.more hmore),hE,if_pos ⟨rfl,rfl⟩,hent]
  exact fun q => q.2 h0 rfl
theorem mov_mv (h : St F π L k) {s t : Spt} {d n td : Nd} {e : En} (hs : Sit F s d n e) (ht : nodeM F t.dir = some td) (h0 : entF F t.dir t.name = 0) (b : Bool) : Mv F (moveAt F s t b) s.dir s.name t.dir t.name s.ino ∧ ∀ j,dirB (moveAt F s t b) j = dirB F j := by
 have od := h.ws.ord d (node_mem hs.dir).1
 have otd := h.ws.ord td (node_mem ht).1
 have n1 := nod_named (i := 0) (nm := s.name) h.ws.nod hs.dir
 obtain ⟨td',ht',_,_,_,q1,q2⟩ := named_at (i := 0) (nm := s.name) h.ws.nod hs.dir ht
 have otd' : Ord td'.ents := by
  by_cases q : t.dir = s.dir
  ·rw [q2 q]; exact ord_ins otd _ _
  ·rw [q1 q]; exact otd
 have n2 := nod_named (i := s.ino) (nm := t.name) n1 ht'
 have e2 : ∀ c x,entF (namedM (namedM F s.dir s.name 0) t.dir t.name s.ino) c x = if c = t.dir ∧ x = t.name then s.ino else if c = s.dir ∧ x = s.name then 0 else entF F c x := fun c x => by rw [entF_named n1 ht' otd',entF_named h.ws.nod hs.dir od]
 have b2 : ∀ j,dirB (namedM (namedM F s.dir s.name 0) t.dir t.name s.ino) j = dirB F j := fun j => by rw [dir_named n1 ht',dir_named h.ws.nod hs.dir]
 have i0 := hs.i0
 unfold moveAt
 split
 ·obtain ⟨z,hz,_⟩ := named_at (i := s.ino) (nm := t.name) n1 ht' (named_at (i := 0) (nm := s.name) h.ws.nod hs.dir hs.dir).choose_spec.1
  have n3 := nod_linked (by_ := -1) n2 hz
  exact ⟨⟨sit_ent h hs,h0,by omega,fun c x => by rw [entF_linked n3,entF_linked n2,e2]⟩,fun j => by rw [dir_linked n3,dir_linked n2,b2]⟩
 ·exact ⟨⟨sit_ent h hs,h0,by omega,e2⟩,b2⟩
theorem ren_ac (h : St F π L k) (a : Ac F) (old path : ByteArray) : Acs F (renV L old path) (renameM F old path) := by
 obtain ⟨hf,hled⟩ := h.sim.find old
 obtain ⟨hf2,hled2⟩ := h.sim.find path
 unfold renV renameM
 rw [hf,hf2]
 obtain ⟨⟨s,er⟩,hR⟩ : ∃ R,fndM F old = R := ⟨_,rfl⟩
 obtain ⟨⟨t,er2⟩,hR2⟩ : ∃ R,fndM F path = R := ⟨_,rfl⟩
 rw [hR] at hled ⊢
 rw [hR2] at hled2 ⊢
 dsimp only at hled hled2 ⊢
 by_cases he : er ≠ 0
 ·rw [if_pos he,if_pos he]; exact .err a
 rw [if_neg he,if_neg he]
 have hsi : (spotOf F π s).ino = s.ino := rfl
 have hti : (spotOf F π t).ino = t.ino := rfl
 rw [hsi,hti]
 by_cases h1 : s.ino = 1
 ·rw [if_pos h1,if_pos h1]; exact .err a
 rw [if_neg h1,if_neg h1]
 by_cases h0 : s.ino = 0
 ·rw [if_pos h0,if_pos h0]; exact .err a
 rw [if_neg h0,if_neg h0]
 by_cases he2 : er2 ≠ 0
 ·rw [if_pos he2,if_pos he2]; exact .err a
 rw [if_neg he2,if_neg he2]
 by_cases h12 : t.ino = 1
 ·rw [if_pos h12,if_pos h12]; exact .err a
 rw [if_neg h12,if_neg h12]
 by_cases hst : s.ino = t.ino
 ·rw [if_pos hst,if_pos hst.symm]; exact .err a
 rw [if_neg hst,if_neg (show ¬ t.ino = s.ino from fun q => hst q.symm)]
 obtain ⟨d,n,e,hs⟩ := sit_of h (hled (by omega)) h0 h1
 have ledt := hled2 (by omega)
 rw [hs.node,spot_k h hs.node]
 dsimp only
 rw [show (inoL π n).k = n.kind from rfl]
 by_cases hu : n.kind = 2 ∧ under (spl old).1 (spl path).1 = true
 ·rw [if_pos hu,if_pos hu]; exact .err a
 rw [if_neg hu,if_neg hu]
 have he0 : er = 0 := by omega
 have he20 : er2 = 0 := by omega
 rw [he0] at hR
 rw [he20] at hR2
 obtain ⟨p,o1,o2,o3,o4⟩ := fnd_pth h.sim.wf hR h1
 obtain ⟨q,p1,p2,p3,p4⟩ := fnd_pth h.sim.wf hR2 h12
 have hui : dirB F s.ino = true → under (p ++ [s.name]) (q ++ [t.name]) = false := fun hb => by
  rw [dir_some hs.node] at hb
  rw [← o1,← p1]
  cases hx : under (spl old).1 (spl path).1 with
  | false => rfl
  | true => exact absurd ⟨by simpa using hb,hx⟩ hu
 have hav := off_way h.sim.wf o2 o4 h0 p2 p3 hui
 have fin : ∀ (G : Fs) (L2 : List Pr),St G π L2 k → Ac G → Sit G s d n e ∨ (∃ d' n',Sit G s d' n' e ∧ n'.kind = n.kind) → (∃ td,nodeM G t.dir = some td) → entF G t.dir t.name = 0 → Pth G t.dir q → (∀ a,Pth G s.ino a → ¬ a <+: q) → Pth G s.dir p → ¬ (s.dir = t.dir ∧ s.name = t.name) → Ac (moveAt G s t (decide (n.kind = 2))) ∧ ¬ Rea (moveAt G s t (decide (n.kind = 2))) (p ++ [s.name]) := by
  intro G L2 hG aG hsG htd hno hq hpre hp hne
  obtain ⟨d',n',hs',_⟩ : ∃ d' n',Sit G s d' n' e ∧ n'.kind = n.kind := by
   rcases hsG with w | w
   ·exact ⟨d,n,w,rfl⟩
   ·exact w
  obtain ⟨td,htd⟩ := htd
  obtain ⟨mv,md⟩ := mov_mv hG hs' htd hno (decide (n.kind = 2))
  have hq2 := mv.avoid hq hpre
  refine ⟨fun j hj => ?_,?_⟩
  ·rw [md] at hj
   obtain ⟨l,pl⟩ := aG j hj
   exact mv.moved hq2 pl
  ·have hp2 : Pth (moveAt G s t (decide (n.kind = 2))) s.dir p := mv.avoid hp (fun a ha hpr => by
    obtain ⟨r,hr⟩ := hpr
    obtain ⟨c,y1,y2,y3⟩ := hp.pre (a := a) (r := r) hr.symm
    have hc := ha.det y1
    subst hc
    have hdi : dirB G s.ino = true := by
     by_cases hr0 : r = []
     ·rw [y2 hr0,dir_some hs'.dir]; exact decide_eq_true hs'.dk
     ·obtain ⟨x,hx⟩ := y3 hr0
      exact (entF_ok hG.sim.wf hx).1
    have e1 := ha.uq hG.sim.wf hdi (hp.to (sit_ent hG hs') (by have := hs'.i0; omega))
    have e2 := congrArg List.length hr
    rw [e1,List.length_append,List.length_append,List.length_singleton] at e2
    omega)
   rw [rea_snoc hp2,mv.ent,if_neg hne,if_pos ⟨rfl,rfl⟩]
   exact fun q => q rfl
 have i0 := hs.i0
 by_cases h02 : t.ino = 0
 ·have ec : clearAt F t (decide (n.kind = 2)) = (0,F) := if_pos h02
  have ev : clrV L (spotOf F π t) (decide (n.kind = 2)) = (0,[]) := if_pos h02
  rw [ec,ev]
  dsimp only
  rw [if_neg (fun q => q rfl),if_neg (fun q => q rfl)]
  obtain ⟨td,htd,_⟩ := dir_mem p3
  obtain ⟨x1,x2⟩ := fin F L h a (.inl hs) ⟨td,htd⟩ (by rw [p4]; exact h02) p2 hav o2 (by
   rintro ⟨y1,y2⟩
   rw [y1,y2,p4] at o4
   omega)
  exact ⟨x1,.inr ⟨_,fun y => x2 (y.1 ⟨_,o2.to o4 h0⟩)⟩⟩
 ·obtain ⟨td,nt,et,hst2⟩ := sit_of h ledt h02 h12
  have c : Clr F π L k t nt (clrV L (spotOf F π t) (decide (n.kind = 2))) (clearAt F t (decide (n.kind = 2))) := by
   unfold clrV clearAt
   rw [hti,if_neg h02,if_neg h02]
   by_cases q : n.kind = 2
   ·rw [decide_eq_true q,if_pos rfl,if_pos rfl]; exact rem_clr h hst2
   ·rw [decide_eq_false q,if_neg (by decide),if_neg (by decide)]; exact unl_clr h hst2
  have g : (clearAt F t (decide (n.kind = 2))).1 = 0 → Gon F (clearAt F t (decide (n.kind = 2))).2 t := by
   unfold clearAt
   rw [if_neg h02]
   by_cases q : n.kind = 2
   ·rw [decide_eq_true q,if_pos rfl]; exact rem_gon h hst2
   ·rw [decide_eq_false q,if_neg (by decide)]; exact unl_gon h hst2
  generalize clrV L (spotOf F π t) (decide (n.kind = 2)) = V at c ⊢
  generalize clearAt F t (decide (n.kind = 2)) = M at c g ⊢
  rw [c.er]
  by_cases hM : M.1 ≠ 0
  ·rw [if_pos hM,if_pos hM]; exact .err a
  rw [if_neg hM,if_neg hM]
  have hV : V.1 = 0 := by rw [c.er]; omega
  have g := g (by omega)
  obtain ⟨h2,hkept,hne⟩ := c.yes hV
  have a1 : s.dir ≠ t.ino := fun q => by
   have b := hs.dir
   rw [q,hst2.node] at b
   injection b with b
   have b2 := hs.me
   rw [← b,hne] at b2
   cases b2
  have a2 : t.dir ≠ t.ino := fun q => ne_dir hst2 hne q.symm
  obtain ⟨d',hd',kd',ed'⟩ := hkept s.dir d hs.dir a1
  obtain ⟨n',hn',kn',_⟩ := hkept s.ino n hs.node hst
  obtain ⟨td',htd',ktd',etd'⟩ := hkept t.dir td hst2.dir a2
  have a3 : ¬ (s.dir = t.dir ∧ s.name = t.name) := fun y => by
   rw [y.1,y.2,p4] at o4
   exact hst o4.symm
  have hs' : Sit M.2 s d' n' e := ⟨hd',by rw [kd']; exact hs.dk,hs.nm,(ed' e).2 ⟨hs.me,by rw [hs.en]; exact a3⟩,hs.en,hs.ei,hn',hs.i0,hs.i1,hs.i2⟩
  have aG : Ac M.2 := g.ac h a hst2
  have hqG : Pth M.2 t.dir q := p2.cut (sit_ent h hst2) g.no g.ent a2
  have hpG : Pth M.2 s.dir p := o2.cut (sit_ent h hst2) g.no g.ent a1
  have eG : entF M.2 s.dir s.name = s.ino := sit_ent h2 hs'
  have havG := off_way h2.sim.wf hpG eG h0 hqG (by rw [dir_some htd',ktd']; exact decide_eq_true hst2.dk) (fun hb => hui (by rw [dir_some hn'] at hb; rw [dir_some hs.node,← kn']; exact hb))
  obtain ⟨x1,x2⟩ := fin M.2 _ h2 aG (.inr ⟨d',n',hs',kn'⟩) ⟨td',htd'⟩ (by rw [g.ent,if_pos ⟨rfl,rfl⟩]) hqG havG hpG a3
  exact ⟨x1,.inr ⟨_,fun y => x2 (y.1 ⟨_,o2.to o4 h0⟩)⟩⟩
end
end Go.Proofs.YtfalhnomhidkcaaGreatDoor.DirsTa
namespace Go.Proofs.YtfalhnomhidkcaaGreatDoor.DirsLc
open Go.RowKit
open Byte KeysM TreeM ViewM NamesM Lst Tx WalkM WalkF WalkKm Chg ViewL WalkL DirsM DirsV DirsR DirsK DirsKa DirsKc DirsL DirsLa DirsLb DirsY DirsS DirsZ DirsZa DirsZb
open DirsX hiding gk
open DirsT (Ac)
open DirsTa
open ViewR (Sh)
variable {Rep : RepT}
def InB (b : Int) (F : Fs) : Prop := ∀ n ∈ F,n.ino ≤ b
section
variable {F : Fs} {b : Int}
theorem mem_withL (n : Nd) : ∀ (f : Fs) (d : Bool) {x : Nd},x ∈ withL n d f → x = n ∨ x ∈ f
 | [],d,x,h => by
   unfold withL at h
   split at h
   ·cases h
   ·exact .inl (List.mem_singleton.1 h)
 | y :: r,d,x,h => by
   unfold withL at h
   split at h
   ·rcases List.mem_cons.1 h with h | h
    ·exact .inl h
    ·rcases mem_withL n r true h with h | h
     ·exact .inl h
     ·exact .inr (List.mem_cons_of_mem _ h)
   ·rcases List.mem_cons.1 h with h | h
    ·exact .inr (by rw [h]; exact List.mem_cons_self)
    ·rcases mem_withL n r d h with h | h
     ·exact .inl h
     ·exact .inr (List.mem_cons_of_mem _ h)
theorem InB.with_ (h : InB b F) {n : Nd} (hn : n.ino ≤ b) : InB b (withM F n) := fun x hx => by
 rcases mem_withL n F false hx with rfl | hx
 ·exact hn
 ·exact h x hx
theorem InB.wo (h : InB b F) (i : Int) : InB b (withoutM F i) := fun x hx => h x (mem_wo.1 hx).1
theorem InB.named (h : InB b F) (d : Int) (nm : ByteArray) (i : Int) : InB b (namedM F d nm i) := by
 unfold namedM
 split
 ·rename_i n hn
  exact h.with_ (h n (node_mem hn).1)
 ·exact h
theorem InB.linked (h : InB b F) (i y : Int) : InB b (linkedM F i y) := by
 unfold linkedM
 split
 ·rename_i n hn
  exact h.with_ (h n (node_mem hn).1)
 ·exact h
theorem InB.make (h : InB b F) (path : ByteArray) (kind : Int) {ino : Int} (hi : ino ≤ b) : InB b (makeM F path kind ino).2 := by
 unfold makeM
 split
 ·exact h
 ·split
  ·exact h
  ·unfold makeAt
   refine InB.named ?_ _ _ _
   split
   ·exact h.with_ hi
   ·exact (h.with_ (n := ⟨ino,2,2,NE,[]⟩) hi).linked _ _
theorem InB.remAt (h : InB b F) (s : Spt) : InB b (removeAt F s).2 := by
 unfold removeAt
 split
 ·exact h
 ·split
  ·exact h
  ·split
   ·exact h
   ·exact ((h.wo _).linked _ _).named _ _ _
theorem InB.unlAt (h : InB b F) (s : Spt) : InB b (unlinkAt F s).2 := by
 unfold unlinkAt
 split
 ·exact h
 ·split
  ·exact h
  ·refine InB.named ?_ _ _ _
   split
   ·exact h.wo _
   ·exact h.linked _ _
theorem InB.rem (h : InB b F) (path : ByteArray) : InB b (removeM F path).2 := by
 unfold removeM
 split
 ·exact h
 ·split
  ·exact h
  ·split
   ·exact h
   ·exact h.remAt _
theorem InB.unl (h : InB b F) (path : ByteArray) : InB b (unlinkM F path).2 := by
 unfold unlinkM
 split
 ·exact h
 ·split
  ·exact h
  ·exact h.unlAt _
theorem InB.lnk (h : InB b F) (old path : ByteArray) : InB b (linkM F old path).2 := by
 unfold linkM
 split
 ·exact h
 ·split
  ·exact h
  ·split
   ·exact h
   ·split
    ·exact h
    ·split
     ·exact h
     ·split
      ·exact h
      ·split
       ·exact h
       ·exact (h.linked _ _).named _ _ _
theorem InB.clr (h : InB b F) (t : Spt) (dir : Bool) : InB b (clearAt F t dir).2 := by
 unfold clearAt
 split
 ·exact h
 ·split
  ·exact h.remAt _
  ·exact h.unlAt _
theorem InB.mov (h : InB b F) (s t : Spt) (dir : Bool) : InB b (moveAt F s t dir) := by
 unfold moveAt
 split
 ·exact (((h.named _ _ _).named _ _ _).linked _ _).linked _ _
 ·exact (h.named _ _ _).named _ _ _
theorem InB.ren (h : InB b F) (old path : ByteArray) : InB b (renameM F old path).2 := by
 unfold renameM
 split
 ·exact h
 ·split
  ·exact h
  ·split
   ·exact h
   ·split
    ·exact h
    ·split
     ·exact h
     ·split
      ·exact h
      ·split
       ·exact h
       ·split
        ·exact h
        ·split
         ·exact h
         ·exact (h.clr _ _).mov _ _ _
end
theorem findl_er (L : List Pr) : ∀ (l : List ByteArray) (x : Spot),(findL L x l).2 ≠ 21
 | [],x => (by decide : (0 : Int) ≠ 21)
 | nm :: r,x => by
   unfold findL
   split
   ·decide
   ·split
    ·decide
    ·exact findl_er L r _
theorem find_er (L : List Pr) (p : ByteArray) : (findM L p).2 ≠ 21 := by
 unfold findM
 split
 ·rcases spl_err p with h | h | h <;> rw [h] <;> decide
 ·exact findl_er L _ _
theorem rem_er (L : List Pr) (x : Spot) : (remV L x).1 ≠ 21 ∧ (remV L x).2.length ≤ 3 := by
 unfold remV
 split
 ·exact ⟨by decide,by decide⟩
 ·split
  ·exact ⟨by decide,by decide⟩
  ·exact ⟨(by decide : (0 : Int) ≠ 21),Nat.le_refl 3⟩
theorem unl_er (x : Spot) : (unlV x).1 ≠ 21 ∧ (unlV x).2.length ≤ 3 := by
 unfold unlV
 split
 ·exact ⟨by decide,by decide⟩
 ·split
  ·exact ⟨(by decide : (0 : Int) ≠ 21),Nat.le_succ 2⟩
  ·exact ⟨(by decide : (0 : Int) ≠ 21),Nat.le_succ 2⟩
theorem clr_er (L : List Pr) (x : Spot) (d : Bool) : (clrV L x d).1 ≠ 21 ∧ (clrV L x d).2.length ≤ 3 := by
 unfold clrV
 split
 ·exact ⟨by decide,by decide⟩
 ·split
  ·exact rem_er L x
  ·exact unl_er x
theorem mak_er (L : List Pr) (p : ByteArray) (k i : Int) : (makV L p k i).1 ≠ 21 ∧ (makV L p k i).2.length ≤ 8 := by
 unfold makV
 split
 ·exact ⟨find_er L p,Nat.zero_le 8⟩
 ·split
  ·exact ⟨by decide,by decide⟩
  ·split
   ·exact ⟨(by decide : (0 : Int) ≠ 21),by show 2 ≤ 8; decide⟩
   ·exact ⟨(by decide : (0 : Int) ≠ 21),by show 3 ≤ 8; decide⟩
theorem rmd_er (L : List Pr) (p : ByteArray) : (rmdV L p).1 ≠ 21 ∧ (rmdV L p).2.length ≤ 8 := by
 unfold rmdV
 split
 ·exact ⟨find_er L p,Nat.zero_le 8⟩
 ·split
  ·exact ⟨by decide,by decide⟩
  ·split
   ·exact ⟨by decide,by decide⟩
   ·have := rem_er L (findM L p).1
    exact ⟨this.1,by omega⟩
theorem ulk_er (L : List Pr) (p : ByteArray) : (ulkV L p).1 ≠ 21 ∧ (ulkV L p).2.length ≤ 8 := by
 unfold ulkV
 split
 ·exact ⟨find_er L p,Nat.zero_le 8⟩
 ·split
  ·exact ⟨by decide,by decide⟩
  ·have := unl_er (findM L p).1
   exact ⟨this.1,by omega⟩
theorem lnk_er (L : List Pr) (o p : ByteArray) : (lnkV L o p).1 ≠ 21 ∧ (lnkV L o p).2.length ≤ 8 := by
 unfold lnkV
 split
 ·exact ⟨find_er L o,Nat.zero_le 8⟩
 ·split
  ·exact ⟨by decide,by decide⟩
  ·split
   ·exact ⟨by decide,by decide⟩
   ·split
    ·exact ⟨find_er L p,Nat.zero_le 8⟩
    ·split
     ·exact ⟨by decide,by decide⟩
     ·split
      ·exact ⟨by decide,by decide⟩
      ·exact ⟨(by decide : (0 : Int) ≠ 21),by show 2 ≤ 8; decide⟩
theorem mov_len (x y : Spot) : (movPs x y).length ≤ 5 := by
 unfold movPs
 split
 ·exact Nat.le_refl 5
 ·show 2 ≤ 5; decide
theorem ren_er (L : List Pr) (o p : ByteArray) : (renV L o p).1 ≠ 21 ∧ (renV L o p).2.length ≤ 8 := by
 unfold renV
 split
 ·exact ⟨find_er L o,Nat.zero_le 8⟩
 ·split
  ·exact ⟨by decide,by decide⟩
  ·split
   ·exact ⟨by decide,by decide⟩
   ·split
    ·exact ⟨find_er L p,Nat.zero_le 8⟩
    ·split
     ·exact ⟨by decide,by decide⟩
     ·split
      ·exact ⟨by decide,by decide⟩
      ·split
       ·exact ⟨by decide,by decide⟩
       ·have h1 := clr_er L (findM L p).1 (decide ((findM L o).1.node.k = 2))
        split
        ·exact ⟨h1.1,Nat.zero_le 8⟩
        ·refine ⟨(by decide : (0 : Int) ≠ 21),?_⟩
         have h2 := mov_len (findM L o).1 (findM L p).1
         rw [List.length_append]
         omega
theorem done_len (L : List Pr) (p : Pr) : (doneW L p).length ≤ L.length + 1 := by
 unfold doneW
 split
 ·unfold cutL
  have := List.length_filter_le (fun q => !decide (q.key = p.key)) L
  omega
 ·exact put_len _ _ _
theorem out_len : ∀ (ps : List Wrt) (L : List Pr),(outW L ps).length ≤ L.length + ps.length
 | [],L => Nat.le_refl _
 | p :: ps,L => by
   have h1 := out_len ps (doneW L (p L))
   have h2 := done_len L (p L)
   show (outW (doneW L (p L)) ps).length ≤ L.length + (ps.length + 1)
   omega
structure Bu (Rep : RepT) (Q : Nat → Prop) (w : World) (v : Value) (s : Vs) (S D : Nat → Prop) (h : Sh) (F : Fs) (k : Nat) : Prop where
 rep : Rep w v s S D
 fs : FsA (fun b => ¬ S b ∧ Q b) w h F
 mx : Mxs w S
 st : ∃ π,St F π s.shown k
 base : s.base.length ≤ 8 * k
 rd : s.rd.length ≤ 100 * k
 rg : s.rg.length ≤ 2 * k
 len : s.shown.length ≤ 8 * k
 ac : Ac F
structure Bt (Rep : RepT) (Q : Nat → Prop) (w : World) (v : Value) (s : Vs) (S D : Nat → Prop) (h : Sh) (F : Fs) (k : Nat) : Prop extends Bu Rep Q w v s S D h F k where
 inos : InB (k + 1) F
def Gl (s : Vs) : Prop := s.base = [] ∧ ∀ p ∈ s.wr,p.gone = false
theorem gl_write {s : Vs} (h : Gl s) (p : Pr) : Gl (s.write p) := by
 unfold Vs.write
 split
 ·exact h
 ·refine ⟨h.1,fun q hq => ?_⟩
  have hq2 : q ∈ writeW s.base s.wr p := hq
  unfold writeW at hq2
  split at hq2
  ·exact h.2 q (List.mem_filter.1 hq2).1
  ·rename_i hn
   rcases mem_putP hq2 with rfl | hq3
   ·rw [h.1] at hn
    simpa [getL] using hn
   ·exact h.2 q hq3.1
theorem gl_go : ∀ (ps : List Wrt) {s : Vs},Gl s → Gl (goW s ps).1
 | [],s,h => h
 | p :: ps,s,h => by
   cases hf : fullW s.wr (p s.shown) with
   | true => rw [goW_full hf]; exact h
   | false => rw [goW_room hf]; exact gl_go ps (gl_write h _)
def DoQ (Rep : RepT) (Q : Nat → Prop) (v : Value) (s : Vs) (F : Fs) (ino : Int) (S D : Nat → Prop) (k : Nat) (w : World) (e : Ending) (w' : World) : Prop := ∃ (s' : Vs) (S' D' : Nat → Prop) (h' : Sh),Rep w' v s' S' D' ∧ Stp S D S' D' w w' ∧ ((e = .returned (.tuple #[.bool true,.agg #[.slice h'.a h'.n h'.c],.bool true])) ∨ (∃ F',e = .returned (.tuple #[.bool true,.agg #[.slice h'.a h'.n h'.c],.bool false]) ∧ Bu Rep Q w' v s' S' D' h' F' (k + 1) ∧ (InB (k + 1) F → ino = 2 + k → InB (k + 1 + 1 : Nat) F') ∧ (s'.shown = s.shown ∨ ∃ l,¬ (Rea F l ↔ Rea F' l)) ∧ (Gl s → Gl s')))
def DoP (Rep : RepT) (Q : Nat → Prop) (v : Value) (s : Vs) (S D : Nat → Prop) (k : Nat) (w : World) (e : Ending) (w' : World) : Prop := ∃ (s' : Vs) (S' D' : Nat → Prop) (h' : Sh),Rep w' v s' S' D' ∧ Stp S D S' D' w w' ∧ ((e = .returned (.tuple #[.bool true,.agg #[.slice h'.a h'.n h'.c],.bool true])) ∨ (∃ F',e = .returned (.tuple #[.bool true,.agg #[.slice h'.a h'.n h'.c],.bool false]) ∧ Bt Rep Q w' v s' S' D' h' F' (k + 1) ∧ (Gl s → Gl s')))
section
variable {Q : Nat → Prop} {w w' : World} {v : Value} {s : Vs} {S D : Nat → Prop} {h : Sh} {F : Fs} {k : Nat}
theorem dop_of (hS : Stays Rep) (b : Bu Rep Q w v s S D h F k) {V : Int × List Wrt} {M : Int × Fs} {kk m : Nat} {e : Ending} {ino : Int} (dd : Did s.shown V M (k + 1)) (hac : Acs F V M) (hi : InB (k + 1) F → ino = 2 + k → InB (k + 1 + 1 : Nat) M.2) (hl : V.2.length ≤ 8) (h1 : kk ≤ 100) (h2 : m ≤ 2) (he : DoE Rep Q v s V.2 kk m S D h F M.2 w e w') : DoQ Rep Q v s F ino S D k w e w' := by
 obtain ⟨s',S',D',h',rfl,hr,st,ha,hf⟩ := he
 refine ⟨s',S',D',h',hr,st,?_⟩
 cases hg : (goW s V.2).2 with
 | false => exact .inl rfl
 | true =>
   rw [if_pos hg] at hf
   right
   have ho := hS.ok b.rep
   have hsh : s'.shown = outW s.shown V.2 := by rw [ha.sm.shown]; exact (go_out V.2 ho hg).1
   refine ⟨M.2,rfl,⟨hr,hf,b.mx.step st,by rw [hsh]; exact dd.st,?_,?_,?_,?_,hac.1⟩,hi,?_,?_⟩
   ·rw [ha.sm.base,goW_base]; have := b.base; omega
   ·have := ha.rd; have := b.rd; omega
   ·have := ha.rg; have := b.rg; omega
   ·rw [hsh]; have := out_len V.2 s.shown; have := b.len; omega
   ·rcases hac.2 with q | q
    ·exact .inl (by rw [hsh,q]; rfl)
    ·exact .inr q
   ·intro hgl
    have := gl_go V.2 hgl
    unfold Gl at this ⊢
    rw [ha.sm.base,ha.sm.wr]
    exact this
theorem Bu.lim (b : Bu Rep Q w v s S D h F k) (hk : k ≤ 62) : Lim s := ⟨by have := b.base; omega,by have := b.rd; omega,by have := b.rg; omega⟩
theorem Bu.letters (hS : Stays Rep) (b : Bu Rep Q w v s S D h F k) : (∀ p ∈ s.shown,(sp p.key).letter ≠ 0) ∧ ∀ p ∈ s.shown,∀ i,blkB i p = false := by
 obtain ⟨π,st⟩ := b.st
 have hl := fun p hp => st.sim.letter st.rise st.ws.data (p := p) hp
 refine ⟨fun p hp => ?_,fun p hp i => ?_⟩
 ·rcases hl p hp with q | q <;> rw [q] <;> decide
 ·unfold blkB
  rcases hl p hp with q | q <;> rw [q] <;> simp
theorem Bt.free (b : Bt Rep Q w v s S D h F k) : nodeM F (2 + k) = none := node_no fun x hx e => by
 have := b.inos x hx
 omega
theorem do_any (hW : Wk Rep) (hQ : ∀ b,w.heap.size ≤ b → Q b) (b : Bu Rep Q w v s S D h F k) (hk : k ≤ 60) {ino : Int} (i2 : 2 ≤ ino) (i9 : ino ≤ 1000) (hfree : nodeM F ino = none) (kind : Int) (path other : ByteArray) (hp : path.size ≤ 100000) (hp2 : other.size ≤ 100000) :
 Calls Tryz.prog 15 #[v,.agg #[.slice h.a h.n h.c],.agg #[.int .i64 kind,.string path,.string other],.int .u32 ino] w (DoQ Rep Q v s F ino S D k w) := by
 obtain ⟨π,st⟩ := b.st
 have hS := hW.stays
 have hl := b.lim (by omega)
 have h1 : s.rd.length ≤ 18000 := by have := b.rd; omega
 have h2 : s.rg.length ≤ 900 := by have := b.rg; omega
 have hlt := b.letters hS
 have hin : InB (k + 1) F → InB (k + 1 + 1 : Nat) F := fun q n hn => by have := q n hn; omega
 have hk9 : k + 1 ≤ 900 := by omega
 by_cases k0 : kind = 0
 ·subst k0
  have dd := make_did st hk9 path (kind := 1) (ino := ino) (by omega) (by omega) hfree
  have er := mak_er s.shown path 1 ino
  exact (do_mk1 hS path other ino b.rep b.fs hQ b.mx er.1 (fun u S D hr hx => DirsKe.make_calls hW path 1 ino hr hl h1 h2 hx hp (by decide) (by decide) (by omega) (by omega)) (by rw [dd.er]; exact ref_make st path hp (by omega) (by omega) hfree)).mono fun e w' he => dop_of hS b dd (make_ac st b.ac path i2 hfree) (fun q1 q2 => (hin q1).make path 1 (by omega)) er.2 (by decide) (by decide) he
 by_cases k1 : kind = 1
 ·subst k1
  have dd := make_did st hk9 path (kind := 2) (ino := ino) (by omega) (by omega) hfree
  have er := mak_er s.shown path 2 ino
  exact (do_mk2 hS path other ino b.rep b.fs hQ b.mx er.1 (fun u S D hr hx => DirsKe.make_calls hW path 2 ino hr hl h1 h2 hx hp (by decide) (by decide) (by omega) (by omega)) (by rw [dd.er]; exact ref_make st path hp (by omega) (by omega) hfree)).mono fun e w' he => dop_of hS b dd (make_ac st b.ac path i2 hfree) (fun q1 q2 => (hin q1).make path 2 (by omega)) er.2 (by decide) (by decide) he
 by_cases k2 : kind = 2
 ·subst k2
  have dd := rmd_did st hk9 path
  have er := rmd_er s.shown path
  exact (do_rmd hS path other ino b.rep b.fs hQ b.mx er.1 (fun u S D hr hx => DirsKf.rmd_calls hW path hr hl h1 h2 hx hp hlt.1) (by rw [dd.er]; exact ref_rmd st path hp)).mono fun e w' he => dop_of hS b dd (rmd_ac st b.ac path) (fun q1 q2 => (hin q1).rem path) er.2 (by decide) (by decide) he
 by_cases k3 : kind = 3
 ·subst k3
  have hq : (lstV s.shown path).1.length ≤ 100000 := by
   rw [lst_same st path]
   unfold listF
   split
   ·exact Nat.zero_le _
   ·split
    ·exact Nat.zero_le _
    ·split
     ·exact Nat.zero_le _
     ·rename_i n hn
      split
      ·exact Nat.zero_le _
      ·rw [List.length_map]
       have := st.ws.small (node_mem hn).1
       omega
  exact (do_lst hS path other ino b.rep b.fs b.mx hq (fun u S D hr hx => DirsKg.lst_calls hW path hr hl h1 h2 hx hp hlt.1) (by rw [lst_same st path]; exact ref_lst st path hp)).mono fun e w' he => dop_of hS b (V := (0,[])) (M := (0,F)) (Did.err st hk9) (Acs.err b.ac) (fun q1 q2 => hin q1) (by decide) (by decide) (by decide) he
 by_cases k4 : kind = 4
 ·subst k4
  have dd := lnk_did st hk9 path other
  have er := lnk_er s.shown path other
  exact (do_lnk hS path other ino b.rep b.fs hQ b.mx er.1 (fun u S D hr hx => DirsKg.lnk_calls hW path other hr hl h1 h2 hx hp hp2) (by rw [dd.er]; exact ref_lnk st path other hp hp2)).mono fun e w' he => dop_of hS b dd (lnk_ac st b.ac path other) (fun q1 q2 => (hin q1).lnk path other) er.2 (by decide) (by decide) he
 by_cases k5 : kind = 5
 ·subst k5
  have dd := ulk_did st hk9 path
  have er := ulk_er s.shown path
  exact (do_ulk hS path other ino b.rep b.fs hQ b.mx er.1 (fun u S D hr hx => DirsKf.ulk_calls hW path hr hl h1 h2 hx hp hlt.1 hlt.2) (by rw [dd.er]; exact ref_ulk st path hp)).mono fun e w' he => dop_of hS b dd (ulk_ac st b.ac path) (fun q1 q2 => (hin q1).unl path) er.2 (by decide) (by decide) he
 by_cases k6 : kind = 6
 ·subst k6
  have dd := ren_did st hk9 path other
  have er := ren_er s.shown path other
  exact (do_ren hS path other ino b.rep b.fs hQ b.mx er.1 (fun u S D hr hx => DirsKh.ren_calls hW path other hr hl h1 h2 hx hp hp2 hlt.1 hlt.2) (by rw [dd.er]; exact ref_ren st path other hp hp2)).mono fun e w' he => dop_of hS b dd (ren_ac st b.ac path other) (fun q1 q2 => (hin q1).ren path other) er.2 (by decide) (by decide) he
 ·exact (do_else hS kind path other ino b.rep b.fs b.mx (by omega)).mono fun e w' he => dop_of hS b (V := (0,[])) (M := (0,F)) (Did.err st hk9) (Acs.err b.ac) (fun q1 q2 => hin q1) (by decide) (by decide) (by decide) he
theorem do_calls (hW : Wk Rep) (hQ : ∀ b,w.heap.size ≤ b → Q b) (b : Bt Rep Q w v s S D h F k) (hk : k ≤ 60) (kind : Int) (path other : ByteArray) (hp : path.size ≤ 100000) (hp2 : other.size ≤ 100000) :
 Calls Tryz.prog 15 #[v,.agg #[.slice h.a h.n h.c],.agg #[.int .i64 kind,.string path,.string other],.int .u32 (2 + k)] w (DoP Rep Q v s S D k w) :=
 (do_any hW hQ b.toBu hk (by omega) (by omega) b.free kind path other hp hp2).mono fun e w' ⟨s',S',D',h',hr,st,hw⟩ => ⟨s',S',D',h',hr,st,hw.elim .inl fun ⟨F',he,hu,hi,_,hg⟩ => .inr ⟨F',he,⟨hu,hi b.inos rfl⟩,hg⟩⟩
end
end Go.Proofs.YtfalhnomhidkcaaGreatDoor.DirsLc
set_option maxHeartbeats 16000000
set_option maxRecDepth 100000
namespace Go.Proofs.YtfalhnomhidkcaaGreatDoor.DirsLd
open Go.RowKit
open Byte KeysM TreeM TreeR ViewM ViewKm NamesM Lst Tx WalkM WalkF WalkKm Chg TreeL TreeG TreeH ViewL WalkL WalkV Vat DirsK
open Own hiding keeps
open ViewR (Sh NewA)
variable {Rep : RepT}
structure Op18 where
 kind : Int
 path : ByteArray
 other : ByteArray
def opE : Enc Op18 := ⟨fun x => [.int .i64 x.kind,.string x.path,.string x.other],3,fun _ => rfl,fun x u hu => by
 simp only [List.mem_cons,List.mem_nil_iff,or_false] at hu
 rcases hu with rfl | rfl | rfl <;> rfl,by decide⟩
theorem info_op : (Tryz.prog.info? 33).map (·.size) = some 3 := by kernel_rfl
structure OpB (x : Op18) : Prop where
 path : x.path.size ≤ 9223372036854775807
 other : x.other.size ≤ 9223372036854775807
def FrontQ (A : Option Addr) (n c : Nat) (L : List Op18) (w : World) (e : Ending) (w' : World) : Prop := ∃ m,e = .returned (.slice A m c) ∧ m ≤ n ∧ m ≤ 60 ∧ (∀ p ∈ L.take m,p.path.size ≤ 1000 ∧ p.other.size ≤ 1000) ∧ Below w.heap.size w w'
theorem take_nx {α : Type} {L : List α} {k : Nat} {x : α} (h : L[k]? = some x) : L.take (k + 1) = L.take k ++ [x] := by
 obtain ⟨hk,he⟩ := List.getElem?_eq_some_iff.1 h
 rw [List.take_succ_eq_append_getElem hk,he]
theorem cut_calls (A : Option Addr) (n c : Nat) (L : List Op18) (w : World) (hl : Sl opE w A n L) (hn : n ≤ c) (hc : c ≤ maxLen) (hf : ∀ p ∈ L,OpB p) :
 Calls Tryz.prog 14 #[.slice A n c] w (FrontQ A n c L w) := by
 unfold maxLen at hc
 have HL := hQ_ hl
 have HF := hQ_ hf
 clear hl hf
 go_enter Tryz.func14,Tryz.ntmps14
 go_wp2
 go_loopw [7] (fun i wr => ∃ k : Nat,k ≤ n ∧ k ≤ 60 ∧ i = .int .i64 k ∧ Hid (∀ p ∈ L.take k,p.path.size ≤ 1000 ∧ p.other.size ≤ 1000) ∧ Below w.heap.size w wr) (fun i _ => n - (intOf i).toNat)
 case atStart => exact ⟨0,Nat.zero_le _,Nat.zero_le _,rfl,hQ_ (fun p hp => by simp at hp),Below.refl _ _⟩
 case round =>
  obtain ⟨k,hk,hk2,rfl,HK,hbel⟩ := hrel
  by_cases hlt : k < n
  ·obtain ⟨x,g,o,hx,rfl,hg,hcl⟩ := (HL.out.below hbel).get k hlt
   have hfx := HF.out x (List.mem_of_getElem? hx)
   obtain ⟨kind,path,other⟩ := x
   have hp1 : path.size ≤ 9223372036854775807 := hfx.path
   have hp2 : other.size ≤ 9223372036854775807 := hfx.other
   have HC : Hid (wr.rangeAt g (o + k * 3) [.int .i64 kind,.string path,.string other]) := hQ_ hcl
   have HX := hQ_ hx
   have hbs := hbel.size
   have hkc : k ≤ c := by omega
   have hb1 : Below w.heap.size w (wr.alloc (.cells #[.int .i64 kind,.string path,.string other] 33)) := hbel.alloc hbs _
   have HB1 := hQ_ hb1
   clear hcl hfx hx hbel hb1
   rcases (show 60 ≤ k ∨ (k < 60 ∧ 1000 < path.size) ∨ (k < 60 ∧ path.size ≤ 1000 ∧ 1000 < other.size) ∨ (k < 60 ∧ path.size ≤ 1000 ∧ other.size ≤ 1000) by omega) with q | ⟨q,q1⟩ | ⟨q,q1,q2⟩ | ⟨q,q1,q2⟩
   ·have d1 : decide ((60 : Int) ≤ (k : Int)) = true := decide_eq_true (by omega)
    go_wp2_with ((with_reducible refine pick (some 11) ?_); refine wpList_load_mid rfl 33 _ rfl g (o + k * 3) rfl _ _ HC.out Tryz.underlying33 rfl info_op ?_)
    go_ret
    exact ⟨k,rfl,hk,hk2,HK.out,HB1.out⟩
   ·have d1 : decide ((60 : Int) ≤ (k : Int)) = false := decide_eq_false (by omega)
    have d2 : decide ((1000 : Int) < (path.size : Int)) = true := decide_eq_true (by omega)
    go_wp2_with ((with_reducible refine pick (some 11) ?_); refine wpList_load_mid rfl 33 _ rfl g (o + k * 3) rfl _ _ HC.out Tryz.underlying33 rfl info_op ?_)
    go_ret
    exact ⟨k,rfl,hk,hk2,HK.out,HB1.out⟩
   ·have d1 : decide ((60 : Int) ≤ (k : Int)) = false := decide_eq_false (by omega)
    have d2 : decide ((1000 : Int) < (path.size : Int)) = false := decide_eq_false (by omega)
    have d3 : decide ((1000 : Int) < (other.size : Int)) = true := decide_eq_true (by omega)
    go_wp2_with ((with_reducible refine pick (some 11) ?_); refine wpList_load_mid rfl 33 _ rfl g (o + k * 3) rfl _ _ HC.out Tryz.underlying33 rfl info_op ?_)
    go_ret
    exact ⟨k,rfl,hk,hk2,HK.out,HB1.out⟩
   ·have d1 : decide ((60 : Int) ≤ (k : Int)) = false := decide_eq_false (by omega)
    have d2 : decide ((1000 : Int) < (path.size : Int)) = false := decide_eq_false (by omega)
    have d3 : decide ((1000 : Int) < (other.size : Int)) = false := decide_eq_false (by omega)
    go_wp2_with ((with_reducible refine pick (some 11) ?_); refine wpList_load_mid rfl 33 _ rfl g (o + k * 3) rfl _ _ HC.out Tryz.underlying33 rfl info_op ?_)
    go_roundw
    case rel => exact ⟨k + 1,by omega,by omega,by go_num,hQ_ (fun p hp => (by
     rw [take_nx HX.out] at hp
     rcases List.mem_append.1 hp with h | h
     ·exact HK.out p h
     ·rw [List.mem_singleton] at h
      subst h
      exact ⟨q1,q2⟩)),HB1.out⟩
    case measure => simp [intOf]; omega
  ·obtain rfl : k = n := by omega
   have HBL := hQ_ hbel
   clear hbel
   go_wp2
   go_ret
   exact ⟨k,rfl,Nat.le_refl _,hk2,HK.out,HBL.out⟩
theorem info_pr : (Tryz.prog.info? 46).map (·.size) = some 3 := by kernel_rfl
theorem key_in {p : Pr} (h : (sp p.key).letter ≠ 0) : kl p.key ⟨#[]⟩ = false ∧ kl p.key ⟨#[255]⟩ = true := by
 have hx : ∀ c : Int,(txt p.key).getD 0 0 = c → c < 255 → 0 < p.key.size → kl p.key ⟨#[]⟩ = false ∧ kl p.key ⟨#[255]⟩ = true := fun c hc hlt hs => by
  have hl := txt_len p.key
  rw [kl_lt,kl_lt]
  cases ht : txt p.key with
  | nil => rw [ht] at hl; simp at hl; omega
  | cons a r =>
    rw [ht] at hc
    have ha : a = c := by simpa using hc
    refine ⟨KeysV.lt_nil _,?_⟩
    rw [show txt (⟨#[255]⟩ : ByteArray) = [255] by decide]
    unfold lt
    rw [decide_eq_true (show a < 255 by omega)]
    simp
 rcases sp_ways p.key with q | q | q | q
 ·rw [q] at h; exact absurd rfl h
 ·exact hx 73 q.1 (by decide) (by omega)
 ·exact hx 69 q.1 (by decide) (by omega)
 ·exact hx 68 q.1 (by decide) (by omega)
theorem range_all {L : List Pr} (h : ∀ p ∈ L,(sp p.key).letter ≠ 0) : rangeL ⟨#[]⟩ ⟨#[255]⟩ L = L := by
 unfold rangeL
 refine List.filter_eq_self.2 fun p hp => ?_
 have := key_in (h p hp)
 rw [this.1,this.2]
 rfl
theorem put_next {L : List Pr} (hr : Rise L) (hg : ∀ p ∈ L,p.gone = false) {k : Nat} {p : Pr} (h : L[k]? = some p) : putL p.key p.value (L.take k) = L.take (k + 1) := by
 rw [take_nx h,put_putP]
 have e : (⟨p.key,p.value,false⟩ : Pr) = p := by rw [← hg p (List.mem_of_getElem? h)]
 rw [e]
 refine put_end fun q hq => ?_
 obtain ⟨hk,he⟩ := List.getElem?_eq_some_iff.1 h
 obtain ⟨i,hi,hqe⟩ := List.getElem_of_mem hq
 rw [List.length_take] at hi
 rw [List.getElem_take] at hqe
 unfold Rise at hr
 have := (List.pairwise_iff_getElem.1 hr) i k (by omega) hk (by omega)
 rw [hqe,he] at this
 exact this
theorem based_calls (hW : Wk Rep) (hN : NewB Rep) {w : World} {v : Value} {s : Vs} {S D : Nat → Prop} (hr : Rep w v s S D) (hl : Lim s) (hlt : ∀ p ∈ s.shown,(sp p.key).letter ≠ 0) (hg : ∀ p ∈ s.shown,p.gone = false) (hri : Rise s.shown) (hlen : s.shown.length ≤ 1000) :
 Calls Tryz.prog 17 #[v] w fun e w' => ∃ v' S' D',e = .returned v' ∧ Rep w' v' ⟨s.shown,[],[],[]⟩ S' D' ∧ Stp S D S' D' w w' := by
 have hvb := fun q hq => (hW.small hr).shown (hW.stays.ok hr) (q := q) hq
 have A0 := hQ_ (At.start hr)
 have HS := hQ_ hW.stays
 have HR := hQ_ (fun (u : World) (S D : Nat → Prop) (h : Rep u v s S D) => hW.range ⟨#[]⟩ ⟨#[255]⟩ h hl (by decide) (by decide))
 rw [rangeOf_is,range_all hlt] at HR
 have HN := hQ_ hN
 have HP := hQ_ (fun (k : Nat) (p : Pr) (h : s.shown[k]? = some p) => put_next hri hg h)
 have HV := hQ_ hvb
 generalize s.shown = L at *
 clear hr hl hlt hg hri hW hN hvb
 go_enter Tryz.func17,Tryz.ntmps17
 go_wp2_with fail
 refine (TreeG.new_calls _).mono ?_
 rintro e w1 ⟨t0,h0,rfl,hr0,hb1⟩
 have A1 := hQ_ (A0.out.below HS.out hb1)
 have T1 := hQ_ hr0
 clear hb1 hr0
 go_wp2_with fail
 refine (HR.out _ _ _ A1.out.rep).mono ?_
 rintro e w2 ⟨⟨ra,rn,rc⟩,S2,D2,rfl,hs2,_,hr2,st2⟩
 dsimp only at hs2
 have A2 := hQ_ (A1.out.step HS.out hr2 st2)
 have T2 := hQ_ (tkeep T1.out st2.kept)
 have L2 := hQ_ hs2
 have hn : L.length = rn := hs2.1
 clear hr2 st2 hs2
 go_wp2_with fail
 go_loopw [3,10] (fun t i wr => ∃ (k : Nat) (h : Nat),k ≤ rn ∧ i = .int .i64 k ∧ Hid (TRep wr t (L.take k) h) ∧ Hid (Below w2.heap.size w2 wr)) (fun _ i _ => rn - (intOf i).toNat)
 case atStart => exact ⟨0,h0,Nat.zero_le _,rfl,T2,hQ_ (Below.refl _ _)⟩
 case round =>
  obtain ⟨k,h,hk,rfl,HT,HB⟩ := hrel
  by_cases hlt : k < rn
  ·obtain ⟨x,g,o,hx,rfl,hg,hcl⟩ := (L2.out.below HB.out).get k hlt
   have hpu := HP.out k x hx
   obtain ⟨key,value,gone⟩ := x
   dsimp only at hpu
   have HC : Hid (wr.rangeAt g (o + k * 3) [.string key,.string value,.bool gone]) := hQ_ hcl
   have hb1 := bN_ wr (.cells #[.string key,.string value,.bool gone] 46)
   have HB1 := hQ_ hb1
   have HPU := hQ_ hpu
   have hlk : (L.take k).length ≤ 50000 := by rw [List.length_take]; omega
   have HSE := hQ_ (tset key value (tbelow HT.out hb1) hlk)
   clear hcl hx hb1 hpu hlk
   go_wp2_with ((with_reducible refine pick (some 13) ?_); refine wpList_load_mid rfl 46 _ rfl g (o + k * 3) rfl _ _ HC.out Tryz.underlying46 rfl info_pr ?_)
   refine HSE.out.mono ?_
   rintro e w4 ⟨t',h',rfl,hr4,hb4⟩
   rw [HPU.out] at hr4
   have HT4 := hQ_ hr4
   have HB4 := hQ_ (Own.keeps HB.out (Own.keeps HB1.out hb4))
   clear hr4 hb4
   go_wp2_with fail
   go_roundw
   case rel => exact ⟨k + 1,h',by omega,by go_num,HT4,HB4⟩
   case measure => simp [intOf]; omega
  ·obtain rfl : k = rn := by omega
   have hfin := HT.out
   rw [List.take_of_length_le (by omega)] at hfin
   have HNE := hQ_ (HN.out hfin hlen HV.out)
   have A4 := hQ_ (A2.out.below HS.out HB.out)
   clear hfin
   go_wp2_with fail
   refine HNE.out.mono ?_
   rintro e w5 ⟨v',S',D',rfl,hr5,hS5,hD5,hb5⟩
   have A5 := hQ_ (A4.out.below HS.out hb5)
   have HR5 := hQ_ hr5
   have HS5 := hQ_ hS5
   have HD5 := hQ_ hD5
   clear hr5 hb5 hS5 hD5
   go_wp2_with fail
   go_ret
   have hz := A4.out.st.chg.size
   exact ⟨v',S',D',rfl,HR5.out,⟨A5.out.st.chg,A5.out.st.kept,fun b hb => .inr (Nat.le_trans hz (HS5.out b hb)),fun b hb => .inr (Nat.le_trans hz (HD5.out b hb))⟩⟩
end Go.Proofs.YtfalhnomhidkcaaGreatDoor.DirsLd
namespace Go.Proofs.YtfalhnomhidkcaaGreatDoor.DirsLe
open Go.RowKit
open Byte KeysM TreeM ViewM NamesM NamesL Lst WalkM WalkF WalkKm Chg TreeL ViewL WalkL WalkV Vat DirsV DirsK DirsKa DirsKc
open Own hiding keeps
variable {Rep : RepT}
def pd : ByteArray := ⟨#[47,100]⟩
def pdf : ByteArray := ⟨#[47,100,47,102]⟩
def s0 : Vs := ⟨[],[],[],[]⟩
def s1 : Vs := (goW s0 (makV s0.shown pd 2 2).2).1
def s2 : Vs := (goW s1 (makV s1.shown pdf 1 3).2).1
theorem fx1 : (makV s0.shown pd 2 2).1 = 0 ∧ (goW s0 (makV s0.shown pd 2 2).2).2 = true := by decide +kernel
theorem fx2 : (makV s1.shown pdf 1 3).1 = 0 ∧ (goW s1 (makV s1.shown pdf 1 3).2).2 = true := by decide +kernel
theorem fx3 : (rmdV s2.shown pd).1 = 14 ∧ (rmdV s2.shown pd).2.length = 0 := by decide +kernel
theorem fx4 : ∀ p ∈ s2.shown,(sp p.key).letter ≠ 0 := by decide +kernel
theorem step_ {v : Value} {s t : Vs} {er : Int} {ps : List Wrt} {k m : Nat} {S D : Nat → Prop} {w : World} {e : Ending} {w' : World} (h : Ans Rep v s er ps k m S D w e w') (hs : Sm s t) (hg : (goW t ps).2 = true) :
 ∃ s' S' D',e = .returned (.int .i64 er) ∧ Rep w' v s' S' D' ∧ Stp S D S' D' w w' ∧ Sm s' (goW t ps).1 ∧ s'.rd.length ≤ s.rd.length + k ∧ s'.rg.length ≤ s.rg.length + m := by
 obtain ⟨s',S',D',he,hr,st,ha⟩ := h
 have h1 := goW_sm ps hs
 rw [h1.2,if_pos hg] at he
 exact ⟨s',S',D',he,hr,st,ha.sm.trans h1.1,ha.rd,ha.rg⟩
theorem lim_sm {s : Vs} (h1 : s.base = []) (h2 : s.rd.length ≤ 500) (h3 : s.rg.length ≤ 50) : Lim s := ⟨by rw [h1]; exact Nat.zero_le _,by omega,by omega⟩
theorem fixed_calls (hW : Wk Rep) (hN : NewB Rep) (w : World) (hmx : Mx w) : Calls Tryz.prog 16 #[] w fun e w' => e = .returned (.bool true) ∧ Below w.heap.size w w' := by
 have HMX := hQ_ hmx
 have HN := hQ_ hN
 have HW := hQ_ hW
 clear hN hmx hW
 go_enter Tryz.func16,Tryz.ntmps16
 go_wp2_with fail
 refine (TreeG.new_calls _).mono ?_
 rintro e w1 ⟨v0,h0,rfl,hr0,hb1⟩
 have HB1 := hQ_ hb1
 have HR0 := hQ_ hr0
 clear hb1 hr0
 go_wp2_with fail
 refine (HN.out HR0.out (Nat.zero_le _) (fun p hp => by cases hp)).mono ?_
 rintro e w2 ⟨v,S,D,rfl,hr2,hS2,hD2,hb2⟩
 have HB2 := hQ_ (Own.keeps HB1.out hb2)
 have HS2 : Hid (∀ b,S b → w.heap.size ≤ b) := hQ_ (fun b hb => Nat.le_trans HB1.out.size (hS2 b hb))
 have A2 := hQ_ (At.start hr2)
 have M2 : Hid (Mxs w2 S) := hQ_ ⟨HMX.out.below HB2.out,fun hs => by
  obtain ⟨m,hm⟩ := HMX.out
  have h1 := World.block_lt_of_cell? w ⟨0,0,none⟩ hm
  have h2 := HS2.out _ hs
  dsimp only at h1
  omega⟩
 have C1 := hQ_ (DirsKe.make_calls HW.out pd 2 2 hr2 (lim_sm (s := ⟨[],[],[],[]⟩) rfl (Nat.zero_le _) (Nat.zero_le _)) (Nat.zero_le _) (Nat.zero_le _) M2.out (by decide) (by decide) (by decide) (by decide) (by decide))
 clear hb2 hr2 hS2 hD2
 go_wp2_with fail
 refine C1.out.mono ?_
 intro e w3 h3
 obtain ⟨t1,S3,D3,rfl,hr3,st3,sm3,rd3,rg3⟩ := step_ h3 (Sm.refl s0) fx1.2
 have e1 : (makV (⟨[],[],[],[]⟩ : Vs).shown pd 2 2).1 = 0 := fx1.1
 rw [e1]
 have A3 := hQ_ (A2.out.step HW.out.stays hr3 st3)
 have M3 := hQ_ (M2.out.step st3)
 have sh1 : t1.shown = s1.shown := sm3.shown
 have rd3' : t1.rd.length ≤ 41 := by simpa using rd3
 have rg3' : t1.rg.length ≤ 0 := by simpa using rg3
 have hbs1 : t1.base = [] := by rw [sm3.base,goW_base]; rfl
 have c2 := DirsKe.make_calls HW.out pdf 1 3 hr3 (lim_sm hbs1 (by omega) (by omega)) (by omega) (by omega) M3.out (by decide) (by decide) (by decide) (by decide) (by decide)
 rw [sh1] at c2
 have C2 := hQ_ c2
 have SM3 : Hid (Sm t1 s1) := hQ_ sm3
 clear h3 hr3 st3 sm3 rd3 rg3 sh1 c2 e1 C1
 go_wp2_with fail
 refine C2.out.mono ?_
 intro e w4 h4
 obtain ⟨t2,S4,D4,rfl,hr4,st4,sm4,rd4,rg4⟩ := step_ h4 SM3.out fx2.2
 rw [fx2.1]
 have A4 := hQ_ (A3.out.step HW.out.stays hr4 st4)
 have M4 := hQ_ (M3.out.step st4)
 have sh2 : t2.shown = s2.shown := sm4.shown
 have hbs2 : t2.base = [] := by rw [sm4.base,goW_base,← SM3.out.base]; exact hbs1
 have c3 := DirsKf.rmd_calls HW.out pd hr4 (lim_sm hbs2 (by omega) (by omega)) (by omega) (by omega) M4.out (by decide) (by rw [sh2]; exact fx4)
 rw [sh2,fx3.1,List.length_eq_zero_iff.1 fx3.2] at c3
 have C3 := hQ_ c3
 clear h4 hr4 st4 sm4 rd4 rg4 sh2 c3 hbs1 hbs2 rd3' rg3' C2
 go_wp2_with fail
 refine C3.out.mono ?_
 rintro e w5 ⟨t3,S5,D5,rfl,hr5,st5,_⟩
 have A5 := hQ_ (A4.out.step HW.out.stays hr5 st5)
 rw [goW_nil]
 clear hr5 st5 C3
 go_wp2_with fail
 go_ret
 exact ⟨rfl,below_chg HB2.out A5.out.st.chg HS2.out (Nat.le_refl _)⟩
end Go.Proofs.YtfalhnomhidkcaaGreatDoor.DirsLe
namespace Go.Proofs.YtfalhnomhidkcaaGreatDoor.DirsLf
open Go.RowKit
open Byte KeysM TreeM ViewM NamesM NamesL Lst Ho WalkM WalkF Chg TreeL ViewL WalkV Vat DirsM DirsV DirsR DirsW DirsY DirsS DirsZ DirsK DirsKc DirsLc DirsLd
open DirsX hiding gk
open WalkL
open Own hiding keeps
open ViewR (Sh)
variable {Rep : RepT}
def F0 : Fs := [⟨1,2,2,NE,[]⟩]
theorem node0 (j : Int) : nodeM F0 j = if j = 1 then some ⟨1,2,2,NE,[]⟩ else none := by
 unfold nodeM F0
 by_cases h : j = 1
 ·rw [if_pos h,List.find?_cons,decide_eq_true (by show (1 : Int) = j; omega)]
 ·rw [if_neg h,List.find?_cons,decide_eq_false (by show ¬ (1 : Int) = j; omega)]
  rfl
theorem mem0 {n : Nd} (h : n ∈ F0) : n = ⟨1,2,2,NE,[]⟩ := List.mem_singleton.1 h
theorem st0 : St F0 (fun _ => 1) [] 0 := by
 have no : ∀ n ∈ F0,∀ e ∈ n.ents,False := fun n hn e he => by rw [mem0 hn] at he; cases he
 have n1 : nodeM F0 1 = some ⟨1,2,2,NE,[]⟩ := by rw [node0,if_pos rfl]
 have wf : Wf F0 (fun _ => 1) :=
  { nod := List.pairwise_singleton _ _
    root := ⟨_,n1,rfl⟩
    ino := fun n hn => by rw [mem0 hn]; exact ⟨by show (1 : Int) ≤ 1; omega,by show (1 : Int) ≤ 4294967295; omega⟩
    kind := fun n hn => by rw [mem0 hn]; exact .inl rfl
    data := fun n hn => by rw [mem0 hn]; exact ⟨by decide,fun _ => rfl⟩
    ord := fun n hn => by rw [mem0 hn]; exact List.Pairwise.nil
    name := fun n hn e he => (no n hn e he).elim
    some_ := fun n hn e he => (no n hn e he).elim
    goes := fun n hn e he => (no n hn e he).elim
    par := fun n hn e he => (no n hn e he).elim
    par1 := rfl
    cnt := fun n hn => by rw [mem0 hn]; rfl
    pos := fun n hn hk => by rw [mem0 hn] at hk; cases hk
    dl := fun n hn hk => by rw [mem0 hn]; rfl }
 have ws : Ws F0 1 0 2 :=
  { nod := wf.nod
    ino := wf.ino
    kind := fun n hn => by rw [mem0 hn]; exact .inl rfl
    data := fun n hn => by rw [mem0 hn]
    ord := wf.ord
    name := wf.name
    some_ := wf.some_
    links := fun n hn => by rw [mem0 hn]; exact ⟨by show -((2 : Nat) : Int) ≤ 2; omega,by show (2 : Int) ≤ ((2 : Nat) : Int); omega⟩
    len := Nat.le_refl 1
    tot_ := Nat.le_refl 0 }
 have rg : RG F0 (fun _ => 1) (DirsX.gk []) := ⟨fun k hk => absurd rfl hk,fun n hn => .inr (by rw [mem0 hn]; exact ⟨rfl,rfl,rfl,rfl⟩),fun n hn e he => (no n hn e he).elim,fun n hn w hw => by rw [mem0 hn,show (⟨1,2,2,NE,[]⟩ : Nd).data = NE from rfl,FileM.blkG_nil]; rfl⟩
 exact St.of wf rg (fun _ => ⟨by show (0 : Int) ≤ 1; omega,by show (1 : Int) ≤ 4294967295; omega⟩) ws (by omega) (by omega) (by omega) List.Pairwise.nil (fun p hp => by cases hp)
theorem ac0 : DirsT.Ac F0 := fun i hi => by
 obtain ⟨n,hn,_⟩ := DirsT.dir_mem hi
 have := (node_mem hn).2
 rw [mem0 (node_mem hn).1] at this
 rw [← this]
 exact ⟨[],.root⟩
structure Pl (Rep : RepT) (w2 : World) (S2 D2 : Nat → Prop) (g : Nat) (w : World) (v : Value) (s : Vs) (S D : Nat → Prop) (h : Sh) (F : Fs) (k : Nat) : Prop where
 B : Bt Rep (fun b => b ≠ g) w v s S D h F k
 A : At Rep w2 S2 D2 (fun b => b = g) w v s S D
 M : Blk w g #[.slice h.a h.n h.c] 29
 ml : 0 < g
section
variable {Q : Nat → Prop} {w2 w w' : World} {S2 D2 S D S' D' : Nat → Prop} {g : Nat} {v v' : Value} {s s' : Vs} {h h' : Sh} {F F' : Fs} {k : Nat}
theorem bt_below (hS : Stays Rep) (b : Bt Rep Q w v s S D h F k) (hb : Below w.heap.size w w') : Bt Rep Q w' v s S D h F k :=
 ⟨⟨hS.below b.rep hb,b.fs.below hb,b.mx.below hb,b.st,b.base,b.rd,b.rg,b.len,b.ac⟩,b.inos⟩
theorem Pl.below (hS : Stays Rep) (p : Pl Rep w2 S2 D2 g w v s S D h F k) (hb : Below w.heap.size w w') : Pl Rep w2 S2 D2 g w' v s S D h F k :=
 ⟨bt_below hS p.B hb,p.A.below hS hb,p.M.below hb,p.ml⟩
theorem at_new (p : At Rep w2 S2 D2 (fun b => b = g) w v s S D) (hr : Rep w' v' s' S' D') (st : Stp S D S' D' w w') : At Rep w2 S2 D2 (fun b => b = g) w' v' s' S' D' := by
 refine ⟨hr,⟨p.st.chg.then_ st.chg (fun i hi hm => ?_),kept_trans p.st.kept st.kept,p.st.own.trans st.own p.st.chg.size,p.st.dep.trans st.dep p.st.chg.size⟩,fun b hb => ?_⟩
 ·rcases p.st.own i hm with h | h
  ·exact h
  ·omega
 ·have h1 := p.mine b hb
  refine ⟨h1.1,Nat.lt_of_lt_of_le h1.2.1 st.chg.size,fun hd => ?_⟩
  rcases st.dep b hd with h | h
  ·exact h1.2.2 h
  ·omega
theorem Pl.anew (hS : Stays Rep) (p : Pl Rep w2 S2 D2 g w v s S D h F k) (hr : Rep w' v' ⟨s.shown,[],[],[]⟩ S' D') (st : Stp S D S' D' w w') : Pl Rep w2 S2 D2 g w' v' ⟨s.shown,[],[],[]⟩ S' D' h F k :=
 ⟨⟨⟨hr,p.B.fs.chg st.chg (fun b hb hlt => ⟨hb.1,fun hs => by
   rcases st.own b hs with h1 | h1
   ·exact hb.1 h1
   ·omega,hb.2⟩),p.B.mx.step st,p.B.st,p.B.len,Nat.zero_le _,Nat.zero_le _,p.B.len,p.B.ac⟩,p.B.inos⟩,at_new p.A hr st,p.A.blk hS p.M rfl st,p.ml⟩
theorem Pl.next (hS : Stays Rep) {u : World} (a : At Rep w2 S2 D2 (fun b => b = g) u v s S D) (m : Blk u g #[.slice h.a h.n h.c] 29) (ml : 0 < g) (b : Bt Rep (fun b => b ≠ g) u v s S D h' F' k) (hg : u.grownBy w' (some g)) (hk : Blk w' g #[.slice h'.a h'.n h'.c] 29) : Pl Rep w2 S2 D2 g w' v s S D h' F' k := by
 have hc : Chg (fun b => b = g) u w' := Chg.of_grown hg (fun k e => .inl (by injection e with e; exact e.symm))
 have a2 := a.stored hS m rfl (by decide) hg
 refine ⟨⟨⟨a2.rep,b.fs.chg hc (fun b hb _ => ⟨hb.2,hb⟩),⟨?_,b.mx.2⟩,b.st,b.base,b.rd,b.rg,b.len,b.ac⟩,b.inos⟩,a2,hk,ml⟩
 obtain ⟨x,hm2⟩ := b.mx.1
 exact ⟨x,hc.cell hm2 (by show ¬ 0 = g; omega)⟩
end
end Go.Proofs.YtfalhnomhidkcaaGreatDoor.DirsLf
namespace Go.Proofs.YtfalhnomhidkcaaGreatDoor.NamesW
open Go.RowKit
open Byte Lst Tx NamesL NamesK
theorem mx_of {w : World} (h : w.ShapedOpen Tryz.prog) : Mx w := NamesY.splitLay.s1_3 w h
end Go.Proofs.YtfalhnomhidkcaaGreatDoor.NamesW
namespace Go.Proofs.YtfalhnomhidkcaaGreatDoor.DirsLx
open Go.RowKit Go.ChangeShapes Go.WideShapes Go.Deep Go.Maps
open Go.Proofs.YtfalhnomhidkcaaGreatDoor.Form Lst Args WalkV WalkD WalkE DirsLd DirsLf
instance : Inhabited Op18 := ⟨⟨0,⟨#[]⟩,⟨#[]⟩⟩⟩
theorem op_form {k : Nat} (hk : 2 ≤ k) {es : List Value} (hl : es.length = opE.size) (h : Shp Tryz.prog k 33 es) : ∃ p : Op18,es = opE.cells p ∧ OpB p := by
 obtain ⟨k,rfl⟩ : ∃ j,k = j + 2 := ⟨k - 2,by omega⟩
 match es,hl with
 | [c0,c1,c2],_ =>
   obtain ⟨kind,e0,w0⟩ := (h.field Tryz.underlying33 0 _ rfl 1 (by kernel_rfl)).int Tryz.underlying3
   obtain ⟨path,e1,w1⟩ := (h.field Tryz.underlying33 1 _ rfl 1 (by kernel_rfl)).string Tryz.underlying9
   obtain ⟨other,e2,w2⟩ := (h.field Tryz.underlying33 2 _ rfl 1 (by kernel_rfl)).string Tryz.underlying9
   simp at e0 e1 e2
   subst e0 e1 e2
   unfold maxLen at w1 w2
   exact ⟨⟨kind,path,other⟩,rfl,by show path.size ≤ _; omega,by show other.size ≤ _; omega⟩
theorem ops_of {H : Type} {enc : TypeId × Value → H} {w : World} {base fuel : Nat} {cs : List Value} {x : DataW H × List MemPlace} (h : DataW.trod enc Tryz.prog w base (fun _ => true) true fuel 22 cs = some x) :
 ∃ A m c,∃ L : List Op18,cs = [.slice A m c] ∧ m ≤ c ∧ c ≤ maxLen ∧ Sl opE w A m L ∧ ∀ p ∈ L,OpB p :=
 sl_of opE OpB 5 Tryz.underlying22 (by kernel_rfl) (fun es hl hs => op_form (by omega) hl hs) h
theorem newb : NewB WalkK.VRep := new_b ViewK.new_ok
end Go.Proofs.YtfalhnomhidkcaaGreatDoor.DirsLx
namespace Go.Proofs.YtfalhnomhidkcaaGreatDoor.DirsTb
open Byte PackM KeysM TreeM ViewM ViewKm NamesM WalkM WalkF WalkKm DirsM DirsV DirsW DirsX DirsY DirsS DirsZ DirsZa DirsZb DirsT DirsTa
open NodeM hiding gk
theorem fndl_snoc (F : Fs) (nm : ByteArray) {n : Nd} : ∀ (l : List ByteArray) {s t : Spt},fndL F s l = (t,0) → t.ino ≠ 0 → nodeM F t.ino = some n → n.kind = 2 → fndL F s (l ++ [nm]) = (⟨t.ino,nm,entryM n nm⟩,0)
 | [],s,t,h,h0,hn,hk => by
   unfold fndL at h
   injection h with h _
   subst h
   rw [List.nil_append]
   unfold fndL
   rw [if_neg h0,hn]
   dsimp only
   rw [if_neg (by omega)]
   rfl
 | x :: r,s,t,h,h0,hn,hk => by
   rw [List.cons_append]
   unfold fndL at h ⊢
   by_cases hs : s.ino = 0
   ·rw [if_pos hs] at h
    injection h with _ h
    cases h
   rw [if_neg hs] at h ⊢
   cases hm : nodeM F s.ino with
   | none =>
     rw [hm] at h
     dsimp only at h
     injection h with h _
     rw [← h] at h0
     exact absurd rfl h0
   | some m =>
     rw [hm] at h
     dsimp only at h ⊢
     by_cases hk2 : m.kind ≠ 2
     ·rw [if_pos hk2] at h
      injection h with _ h
      cases h
     ·rw [if_neg hk2] at h ⊢
      exact fndl_snoc F nm r h h0 hn hk
section
variable {F : Fs} {π : Int → Int} {L : List Pr} {k : Nat}
theorem fndl_of (w : Wf F π) {i : Int} {l : List ByteArray} (p : Pth F i l) : ∃ t,fndL F ⟨0,NE,1⟩ l = (t,0) ∧ t.ino = i := by
 induction p with
 | root => exact ⟨_,rfl,rfl⟩
 | step p nm h ih =>
   rename_i d l
   obtain ⟨t,h1,h2⟩ := ih
   obtain ⟨n,hn,hk⟩ := dir_mem (entF_ok w h).1
   have hd : d ≠ 0 := fun e => by
    have := w.ino n (node_mem hn).1
    rw [(node_mem hn).2,e] at this
    omega
   exact ⟨_,fndl_snoc F nm l h1 (by rw [h2]; exact hd) (by rw [h2]; exact hn) hk,by show entryM n nm = _; rw [entF_some hn]⟩
theorem fnd_of (w : Wf F π) {d : Int} {r : List ByteArray} {nm path : ByteArray} (p : Pth F d r) (hd : dirB F d = true) (hs : (spl path).1 = r ++ [nm]) (he : (spl path).2 = 0) : fndM F path = (⟨d,nm,entF F d nm⟩,0) := by
 obtain ⟨t,h1,h2⟩ := fndl_of w p
 obtain ⟨n,hn,hk⟩ := dir_mem hd
 have hd0 : d ≠ 0 := fun e => by
  have := w.ino n (node_mem hn).1
  rw [(node_mem hn).2,e] at this
  omega
 unfold fndM
 rw [if_neg (by omega),hs,fndl_snoc F nm r h1 (by rw [h2]; exact hd0) (by rw [h2]; exact hn) hk,h2,entF_some hn]
theorem fnd_er {F : Fs} {path : ByteArray} {s : Spt} (h : fndM F path = (s,0)) : (spl path).2 = 0 := by
 unfold fndM at h
 by_cases he : (spl path).2 ≠ 0
 ·rw [if_pos he] at h
  exact (Prod.mk.inj h).2
 ·omega
theorem ord_ext : ∀ {l m : List En},Ord l → Ord m → (∀ e,e ∈ l ↔ e ∈ m) → l = m
 | [],[],_,_,_ => rfl
 | [],q :: m,_,_,h => absurd ((h q).2 (by simp)) (by simp)
 | p :: l,[],_,_,h => absurd ((h p).1 (by simp)) (by simp)
 | p :: l,q :: m,h1,h2,h => by
   have hl := List.pairwise_cons.1 h1
   have hm := List.pairwise_cons.1 h2
   have hpq : p = q := by
    rcases List.mem_cons.1 ((h p).1 (by simp)) with e | e
    ·exact e
    ·rcases List.mem_cons.1 ((h q).2 (by simp)) with e2 | e2
     ·exact e2.symm
     ·have a := hm.1 p e
      have b := hl.1 q e2
      rw [kl_asym a] at b
      exact absurd b (by decide)
   subst hpq
   congr 1
   refine ord_ext hl.2 hm.2 fun x => ?_
   constructor
   ·intro hx
    rcases List.mem_cons.1 ((h x).1 (by simp [hx])) with e | e
    ·subst e
     have := hl.1 x hx
     rw [kl_irr] at this
     exact absurd this (by decide)
    ·exact e
   ·intro hx
    rcases List.mem_cons.1 ((h x).2 (by simp [hx])) with e | e
    ·subst e
     have := hm.1 x hx
     rw [kl_irr] at this
     exact absurd this (by decide)
    ·exact e
def Lik (F F2 : Fs) : Prop := ∀ j,(∀ n,nodeM F j = some n → ∃ n2,nodeM F2 j = some n2 ∧ n2.kind = n.kind ∧ (n.kind ≠ 2 → n2.links = n.links)) ∧ (nodeM F j = none → nodeM F2 j = none)
theorem Lik.trans {A B C : Fs} (h : Lik A B) (k : Lik B C) : Lik A C := fun j => ⟨fun n hn => by
 obtain ⟨m,h1,h2,h3⟩ := (h j).1 n hn
 obtain ⟨o,h4,h5,h6⟩ := (k j).1 m h1
 exact ⟨o,h4,by rw [h5,h2],fun q => by rw [h6 (by rw [h2]; exact q),h3 q]⟩,fun hn => (k j).2 ((h j).2 hn)⟩
theorem same_nodes {F2 : Fs} {π2 : Int → Int} (w : Wf F π) (w2 : Wf F2 π2) (dd : ∀ n ∈ F,n.data = NE) (dd2 : ∀ n ∈ F2,n.data = NE) (hl : Lik F F2) (he : ∀ d nm,entF F2 d nm = entF F d nm) (j : Int) : nodeM F2 j = nodeM F j := by
 have hb : ∀ i,dirB F2 i = dirB F i := fun i => by
  cases hn : nodeM F i with
  | none => rw [dir_none hn,dir_none ((hl i).2 hn)]
  | some n =>
    obtain ⟨n2,h1,h2,_⟩ := (hl i).1 n hn
    rw [dir_some hn,dir_some h1,h2]
 cases hn : nodeM F j with
 | none => exact (hl j).2 hn
 | some n =>
   obtain ⟨n2,h1,h2,h3⟩ := (hl j).1 n hn
   have m1 := node_mem hn
   have m2 := node_mem h1
   have hents : n2.ents = n.ents := by
    refine ord_ext (w2.ord n2 m2.1) (w.ord n m1.1) fun e => ⟨fun h => ?_,fun h => ?_⟩
    ·have a := entF_of h1 (w2.ord n2 m2.1) h
     have b := w2.some_ n2 m2.1 e h
     rw [he,entF_some hn] at a
     rcases entry_ways n e.name with ⟨g,g1,g2,g3⟩ | ⟨_,g3⟩
     ·have : e = g := by
       obtain ⟨en,ei⟩ := e
       obtain ⟨gn,gi⟩ := g
       dsimp only at a g2 g3
       rw [g2,← a,g3]
      rw [this]; exact g1
     ·omega
    ·have a := entF_of hn (w.ord n m1.1) h
     have b := w.some_ n m1.1 e h
     rw [← he,entF_some h1] at a
     rcases entry_ways n2 e.name with ⟨g,g1,g2,g3⟩ | ⟨_,g3⟩
     ·have : e = g := by
       obtain ⟨en,ei⟩ := e
       obtain ⟨gn,gi⟩ := g
       dsimp only at a g2 g3
       rw [g2,← a,g3]
      rw [this]; exact g1
     ·omega
   have hlinks : n2.links = n.links := by
    by_cases hk : n.kind = 2
    ·have a := w.dl n m1.1 hk
     have b := w2.dl n2 m2.1 (by rw [h2]; exact hk)
     rw [hents,subs_eq (F := F) (F' := F2) (fun e _ => hb e.ino)] at b
     unfold zro at a b
     omega
    ·exact h3 hk
   obtain ⟨a1,a2,a3,a4,a5⟩ := n
   obtain ⟨b1,b2,b3,b4,b5⟩ := n2
   have d1 := dd _ m1.1
   have d2 := dd2 _ m2.1
   have i1 := m1.2
   have i2 := m2.2
   dsimp only at *
   rw [h1,h2,hlinks,hents,d1,d2,i1,i2]
theorem gk_half {F2 : Fs} {π2 : Int → Int} {g g2 : Gf} (h : Sim F π g) (h2 : Sim F2 π2 g2) (hn : ∀ j,nodeM F2 j = nodeM F j) (hr : g (kI 1) = none ↔ g2 (kI 1) = none) {q : ByteArray} (hq : g q ≠ none) : g2 q = g q := by
 have hm : ∀ {n : Nd},n ∈ F → n ∈ F2 := fun {n} h1 => (node_mem (by rw [hn]; exact node_of h.wf.nod h1 : nodeM F2 n.ino = some n)).1
 have hb : ∀ i,dirB F2 i = dirB F i := fun i => dir_eq (hn i)
 rcases h.rg.keys q hq with ⟨n,h3,h4⟩ | ⟨n,h3,e,h4,h5⟩ | ⟨n,h3,z,h4,h5,h6⟩
 ·subst h4
  have hpi : n.kind = 2 → π n.ino = π2 n.ino := fun hk => by
   by_cases h1 : n.ino = 1
   ·rw [h1,h.wf.par1,h2.wf.par1]
   ·have hc := h.wf.cnt n h3
    unfold wantC zro at hc
    rw [if_neg h1,if_pos hk] at hc
    obtain ⟨m,hm1,e,he,hei⟩ := cnt_pos.1 (show 0 < cnt F n.ino by omega)
    have hdi : dirB F e.ino = true := by rw [hei,dir_some (node_of h.wf.nod h3)]; exact decide_eq_true hk
    have a := h.wf.par m hm1 e he hdi
    have b := h2.wf.par m (hm hm1) e he (by rw [hb]; exact hdi)
    rw [← hei,a,b]
  have hw : inoW π n = inoW π2 n := by
   unfold inoW
   by_cases hk : n.kind = 2
   ·rw [if_pos hk,if_pos hk,hpi hk]
   ·rw [if_neg hk,if_neg hk]
  rcases h.rg.inos n h3 with a | ⟨a1,a2,a3,a4⟩
  ·rw [a]
   rcases h2.rg.inos n (hm h3) with b | ⟨b1,b2,b3,b4⟩
   ·rw [b,hw]
   ·have := hr.2 b4
    rw [b1,this] at a
    cases a
  ·rw [a1] at hq
   exact absurd a4 hq
 ·subst h5
  rw [h.rg.ents n h3 e h4,h2.rg.ents n (hm h3) e h4]
 ·subst h5
  rw [h.rg.blks n h3 z h4,h2.rg.blks n (hm h3) z h4]
theorem same_shown {F2 : Fs} {π2 : Int → Int} {L2 : List Pr} (h : Sim F π (DirsX.gk L)) (h2 : Sim F2 π2 (DirsX.gk L2)) (hn : ∀ j,nodeM F2 j = nodeM F j) (hr : DirsX.gk L (kI 1) = none ↔ DirsX.gk L2 (kI 1) = none) (r1 : Rise L) (r2 : Rise L2) (g1 : ∀ p ∈ L,p.gone = false) (g2 : ∀ p ∈ L2,p.gone = false) : L2 = L := by
 have key : ∀ {A B : List Pr},Rise A → Rise B → (∀ p ∈ A,p.gone = false) → (∀ p ∈ B,p.gone = false) → (∀ q,DirsX.gk A q ≠ none → DirsX.gk B q = DirsX.gk A q) → ∀ p ∈ A,p ∈ B := fun {A B} ra rb ga gb hab p hp => by
  have h1 : DirsX.gk A p.key = some p.value := by unfold DirsX.gk; rw [get_mem ra hp]; rfl
  have h3 := hab p.key (by rw [h1]; simp)
  rw [h1] at h3
  unfold DirsX.gk at h3
  cases hq : getL p.key B with
  | none => rw [hq] at h3; cases h3
  | some q =>
    rw [hq] at h3
    injection h3 with h3
    obtain ⟨hq1,hq2⟩ := (get_iff rb).1 hq
    have e : p = q := by
     have a := ga p hp
     have b := gb q hq1
     obtain ⟨pk,pv,pg⟩ := p
     obtain ⟨qk,qv,qg⟩ := q
     dsimp only at *
     rw [← hq2,← h3,a,b]
    rw [e]; exact hq1
 exact rise_ext r2 r1 fun p => ⟨key r2 r1 g2 g1 (fun q hq => gk_half h2 h (fun j => (hn j).symm) hr.symm hq) p,key r1 r2 g1 g2 (fun q hq => gk_half h h2 hn hr hq) p⟩
theorem root_there {g : Gf} (h : Sim F π g) (a : Ac F) {i : Int} (hi : dirB F i = true) (h1 : i ≠ 1) : g (kI 1) ≠ none := by
 intro hn
 obtain ⟨r,hr,hrk⟩ := h.wf.root
 have hrm := node_mem hr
 have hl2 : r.links = 2 := by
  rcases h.rg.inos r hrm.1 with q | ⟨_,_,q,_⟩
  ·rw [hrm.2,hn] at q; cases q
  ·exact q
 obtain ⟨l,p⟩ := a i hi
 cases l with
 | nil => exact h1 (p.det .root)
 | cons x l =>
   obtain ⟨c,hc,hc1,hc2⟩ := p.pre (a := [x]) (r := l) rfl
   have hcd : dirB F c = true := by
    by_cases hl : l = []
    ·rw [hc1 hl]; exact hi
    ·obtain ⟨nm,q⟩ := hc2 hl
     exact (entF_ok h.wf q).1
   rcases hc.inv with ⟨_,q⟩ | ⟨d,nm,l0,q1,q2,q3,q4⟩
   ·simp at q
   ·have hl0 : l0 = [] ∧ nm = x := by
     cases l0 with
     | nil => exact ⟨rfl,by simpa using q1.symm⟩
     | cons y l0 => simp at q1
    rw [hl0.1] at q2
    have hd1 := q2.det .root
    rw [hd1] at q3
    obtain ⟨n,e,he1,he2,he3,he4⟩ := entF_mem (F := F) (d := 1) (nm := nm) (by rw [q3]; exact q4)
    rw [hr] at he1
    injection he1 with he1
    subst he1
    have hs : 0 < subs F r.ents := List.countP_pos_iff.2 ⟨e,he2,by rw [he4,q3]; exact hcd⟩
    have := h.wf.dl r hrm.1 hrk
    have hz : zro r.ino = 0 := rfl
    omega
theorem gk_off {L : List Pr} (hr : Rise L) {p : Wrt} {q : ByteArray} (h : q ≠ (p L).key) : DirsX.gk (doneW L (p L)) q = DirsX.gk L q := by
 rw [gk_done hr,setG_ne _ h]
theorem lik_named {A : Fs} (h : Nod A) {d i : Int} {nm : ByteArray} {n : Nd} (hd : nodeM A d = some n) : Lik A (namedM A d nm i) := fun j => by
 rw [node_named h hd]
 refine ⟨fun m hm => ?_,fun hm => ?_⟩
 ·by_cases hj : j = d
  ·rw [if_pos hj]
   subst hj
   rw [hd] at hm
   injection hm with hm
   subst hm
   exact ⟨_,rfl,rfl,fun _ => rfl⟩
  ·rw [if_neg hj]
   exact ⟨m,hm,rfl,fun _ => rfl⟩
 ·rw [if_neg (fun e => by rw [e,hd] at hm; cases hm)]
  exact hm
theorem lik_linked {A : Fs} (h : Nod A) {i y : Int} {n : Nd} (hd : nodeM A i = some n) (hk : n.kind = 2) : Lik A (linkedM A i y) := fun j => by
 rw [node_linked h hd]
 refine ⟨fun m hm => ?_,fun hm => ?_⟩
 ·by_cases hj : j = i
  ·rw [if_pos hj]
   subst hj
   rw [hd] at hm
   injection hm with hm
   subst hm
   exact ⟨_,rfl,rfl,fun q => absurd hk q⟩
  ·rw [if_neg hj]
   exact ⟨m,hm,rfl,fun _ => rfl⟩
 ·rw [if_neg (fun e => by rw [e,hd] at hm; cases hm)]
  exact hm
theorem lik_mov (nF : Nod F) {s t : Spt} {d td : Nd} (hd : nodeM F s.dir = some d) (hk : d.kind = 2) (ht : nodeM F t.dir = some td) (htk : td.kind = 2) (b : Bool) : Lik F (moveAt F s t b) := by
 have n1 := nod_named (i := 0) (nm := s.name) nF hd
 obtain ⟨td',ht',tk',_,_,_,_⟩ := named_at (i := 0) (nm := s.name) nF hd ht
 have n2 := nod_named (i := s.ino) (nm := t.name) n1 ht'
 have l2 := (lik_named (i := 0) (nm := s.name) nF hd).trans (lik_named (i := s.ino) (nm := t.name) n1 ht')
 unfold moveAt
 split
 ·obtain ⟨z,hz,zk,_⟩ := (l2 s.dir).1 d hd
  have n3 := nod_linked (by_ := -1) n2 hz
  have l3 := l2.trans (lik_linked (y := -1) n2 hz (by rw [zk,hk]))
  obtain ⟨y,hy,yk,_⟩ := (l3 t.dir).1 td ht
  exact l3.trans (lik_linked (y := 1) n3 hy (by rw [yk,htk]))
 ·exact l2
theorem own_way (w : Wf F π) {d i : Int} {nm : ByteArray} {p : List ByteArray} (hp : Pth F d p) (hd : dirB F d = true) (hi : entF F d nm = i) (h0 : i ≠ 0) : ∀ a,Pth F i a → ¬ a <+: p := by
 rintro a ha ⟨r,hr⟩
 obtain ⟨c,y1,y2,y3⟩ := hp.pre (a := a) (r := r) hr.symm
 have hc := ha.det y1
 subst hc
 have hdi : dirB F i = true := by
  by_cases hr0 : r = []
  ·rw [y2 hr0]; exact hd
  ·obtain ⟨x,hx⟩ := y3 hr0
   exact (entF_ok w hx).1
 have e1 := ha.uq w hdi (hp.to hi h0)
 have e2 := congrArg List.length hr
 rw [e1,List.length_append,List.length_append,List.length_singleton] at e2
 omega
theorem ren_back (h : St F π L k) (a : Ac F) (hk : k + 2 ≤ 900) (old path : ByteArray) {t : Spt} (hf : fndM F path = (t,0)) (t0 : t.ino = 0) (he : (renV L old path).1 = 0) :
 (renV L old path).2.length ≤ 5 ∧ (renV (outW L (renV L old path).2) path old).1 = 0 ∧ (renV (outW L (renV L old path).2) path old).2.length ≤ 5 ∧ outW (outW L (renV L old path).2) (renV (outW L (renV L old path).2) path old).2 = L := by
 have dd := ren_did h (by omega) old path
 have acs := ren_ac h a old path
 obtain ⟨hfo,hled⟩ := h.sim.find old
 obtain ⟨hfp,hledp⟩ := h.sim.find path
 rw [hf] at hfp hledp
 obtain ⟨⟨s,er⟩,hR⟩ : ∃ R,fndM F old = R := ⟨_,rfl⟩
 rw [hR] at hfo hled
 dsimp only at hfo hled hfp hledp
 have w := h.sim.wf
 have nF := h.ws.nod
 have er0 : er = 0 := by
  by_cases q : er = 0
  ·exact q
  ·exfalso
   unfold renV at he
   rw [hfo] at he
   dsimp only at he
   rw [if_pos q] at he
   exact q he
 subst er0
 have s1 : s.ino ≠ 1 := fun q => by
  unfold renV at he
  rw [hfo] at he
  dsimp only at he
  rw [if_neg (fun z => z rfl),if_pos (show (spotOf F π s).ino = 1 from q)] at he
  cases he
 have s0 : s.ino ≠ 0 := fun q => by
  unfold renV at he
  rw [hfo] at he
  dsimp only at he
  rw [if_neg (fun z => z rfl),if_neg (show ¬ (spotOf F π s).ino = 1 from s1),if_pos (show (spotOf F π s).ino = 0 from q)] at he
  cases he
 obtain ⟨d,n,e,hs⟩ := sit_of h (hled rfl) s0 s1
 obtain ⟨p,o1,o2,o3,o4⟩ := fnd_pth w hR s1
 obtain ⟨q,p1,p2,p3,p4⟩ := fnd_pth w hf (by omega)
 rw [t0] at p4
 obtain ⟨td,htd,htk⟩ := dir_mem p3
 have hnk : (spotOf F π s).node.k = n.kind := by rw [spot_k h hs.node]; rfl
 have hu : ¬ (n.kind = 2 ∧ under (spl old).1 (spl path).1 = true) := fun z => by
  unfold renV at he
  rw [hfo,hfp] at he
  dsimp only at he
  rw [if_neg (fun z => z rfl),if_neg (show ¬ (spotOf F π s).ino = 1 from s1),if_neg (show ¬ (spotOf F π s).ino = 0 from s0),if_neg (fun z => z rfl),if_neg (show ¬ (spotOf F π t).ino = 1 by show ¬ t.ino = 1; omega),if_neg (show ¬ (spotOf F π s).ino = (spotOf F π t).ino by show ¬ s.ino = t.ino; omega),hnk,if_pos z] at he
  cases he
 have hV : renV L old path = (0,movPs (spotOf F π s) (spotOf F π t)) := by
  unfold renV
  rw [hfo,hfp]
  dsimp only
  rw [if_neg (fun z => z rfl),if_neg (show ¬ (spotOf F π s).ino = 1 from s1),if_neg (show ¬ (spotOf F π s).ino = 0 from s0),if_neg (fun z => z rfl),if_neg (show ¬ (spotOf F π t).ino = 1 by show ¬ t.ino = 1; omega),if_neg (show ¬ (spotOf F π s).ino = (spotOf F π t).ino by show ¬ s.ino = t.ino; omega),hnk,if_neg hu]
  have ev : clrV L (spotOf F π t) (decide (n.kind = 2)) = (0,[]) := if_pos t0
  rw [ev]
  dsimp only
  rw [if_neg (fun z => z rfl),List.nil_append]
 have hM : renameM F old path = (0,moveAt F s t (decide (n.kind = 2))) := by
  unfold renameM
  rw [hR,hf]
  dsimp only
  rw [if_neg (fun z => z rfl),if_neg s1,if_neg s0,if_neg (fun z => z rfl),if_neg (show ¬ t.ino = 1 by omega),if_neg (show ¬ t.ino = s.ino by omega),hs.node]
  dsimp only
  rw [if_neg hu]
  have ec : clearAt F t (decide (n.kind = 2)) = (0,F) := if_pos t0
  rw [ec]
  dsimp only
  rw [if_neg (fun z => z rfl)]
 rw [hM] at dd acs
 rw [hV] at dd acs ⊢
 dsimp only at dd acs ⊢
 obtain ⟨π1,st1⟩ := dd.st
 dsimp only at st1
 have a1 : Ac (moveAt F s t (decide (n.kind = 2))) := acs.1
 obtain ⟨mv,mdir⟩ := mov_mv h hs htd p4 (decide (n.kind = 2))
 have lk := lik_mov nF hs.dir hs.dk htd htk (decide (n.kind = 2))
 generalize hF1 : moveAt F s t (decide (n.kind = 2)) = F1 at st1 a1 mv mdir lk
 generalize hL1 : outW L (movPs (spotOf F π s) (spotOf F π t)) = L1 at st1
 have w1 := st1.sim.wf
 have hui : dirB F s.ino = true → under (p ++ [s.name]) (q ++ [t.name]) = false := fun hb => by
  rw [dir_some hs.node] at hb
  rw [← o1,← p1]
  cases hx : under (spl old).1 (spl path).1 with
  | false => rfl
  | true => exact absurd ⟨by simpa using hb,hx⟩ hu
 have pq : Pth F1 t.dir q := mv.avoid p2 (off_way w o2 o4 s0 p2 p3 hui)
 have pp : Pth F1 s.dir p := mv.avoid o2 (own_way w o2 o3 o4 s0)
 have hne : ¬ (s.dir = t.dir ∧ s.name = t.name) := fun z => by rw [z.1,z.2,p4] at o4; exact s0 o4.symm
 have e1 : entF F1 t.dir t.name = s.ino := by rw [mv.ent,if_pos ⟨rfl,rfl⟩]
 have e2 : entF F1 s.dir s.name = 0 := by rw [mv.ent,if_neg hne,if_pos ⟨rfl,rfl⟩]
 have f1 := fnd_of w1 pq (by rw [mdir]; exact p3) p1 (fnd_er hf)
 have f2 := fnd_of w1 pp (by rw [mdir]; exact o3) o1 (fnd_er hR)
 rw [e1] at f1
 rw [e2] at f2
 obtain ⟨n1,hn1,nk1,_⟩ := (lk s.ino).1 n hs.node
 obtain ⟨d1,hd1,dk1,_⟩ := (lk s.dir).1 d hs.dir
 obtain ⟨td1,htd1,tdk1,_⟩ := (lk t.dir).1 td htd
 have hu2 : ¬ (n1.kind = 2 ∧ under (spl path).1 (spl old).1 = true) := fun z => by
  have hx := z.2
  rw [o1,p1] at hx
  unfold under at hx
  rw [Bool.and_eq_true] at hx
  have l1 : (q ++ [t.name]).length < (p ++ [s.name]).length := by simpa using hx.1
  have l2 : (p ++ [s.name]).take (q ++ [t.name]).length = q ++ [t.name] := by simpa using hx.2
  rw [List.length_append,List.length_append,List.length_singleton,List.length_singleton] at l1
  rw [List.take_append_of_le_length (by rw [List.length_append,List.length_singleton]; omega)] at l2
  obtain ⟨c,hc,_,_⟩ := o2.pre (a := q ++ [t.name]) (r := p.drop (q ++ [t.name]).length) (by have := List.take_append_drop (q ++ [t.name]).length p; rw [l2] at this; exact this.symm)
  exact (rea_snoc p2).1 ⟨c,hc⟩ p4
 have hM2 : renameM F1 path old = (0,moveAt F1 ⟨t.dir,t.name,s.ino⟩ ⟨s.dir,s.name,0⟩ (decide (n1.kind = 2))) := by
  unfold renameM
  rw [f1,f2]
  dsimp only
  rw [if_neg (fun z => z rfl),if_neg s1,if_neg s0,if_neg (fun z => z rfl),if_neg (by omega),if_neg (by omega),hn1]
  dsimp only
  rw [if_neg hu2]
  have ec : clearAt F1 ⟨s.dir,s.name,0⟩ (decide (n1.kind = 2)) = (0,F1) := if_pos rfl
  rw [ec]
  dsimp only
  rw [if_neg (fun z => z rfl)]
 have dd2 := ren_did st1 (by omega) path old
 rw [hM2] at dd2
 have hf1 := (st1.sim.find path).1
 have hf2 := (st1.sim.find old).1
 rw [f1] at hf1
 rw [f2] at hf2
 dsimp only at hf1 hf2
 have hnk1 : (spotOf F1 π1 ⟨t.dir,t.name,s.ino⟩).node.k = n1.kind := by rw [spot_k st1 (s := ⟨t.dir,t.name,s.ino⟩) hn1]; rfl
 have hV2 : renV L1 path old = (0,movPs (spotOf F1 π1 ⟨t.dir,t.name,s.ino⟩) (spotOf F1 π1 ⟨s.dir,s.name,0⟩)) := by
  unfold renV
  rw [hf1,hf2]
  dsimp only
  rw [if_neg (fun z => z rfl),if_neg (show ¬ (spotOf F1 π1 ⟨t.dir,t.name,s.ino⟩).ino = 1 from s1),if_neg (show ¬ (spotOf F1 π1 ⟨t.dir,t.name,s.ino⟩).ino = 0 from s0),if_neg (fun z => z rfl),if_neg (show ¬ (spotOf F1 π1 ⟨s.dir,s.name,0⟩).ino = 1 by show ¬ (0 : Int) = 1; omega),if_neg (show ¬ (spotOf F1 π1 ⟨t.dir,t.name,s.ino⟩).ino = (spotOf F1 π1 ⟨s.dir,s.name,0⟩).ino by show ¬ s.ino = 0; omega),hnk1,if_neg hu2]
  have ev : clrV L1 (spotOf F1 π1 ⟨s.dir,s.name,0⟩) (decide (n1.kind = 2)) = (0,[]) := if_pos rfl
  rw [ev]
  dsimp only
  rw [if_neg (fun z => z rfl),List.nil_append]
 rw [hV2] at dd2 ⊢
 dsimp only at dd2 ⊢
 obtain ⟨π2,st2⟩ := dd2.st
 dsimp only at st2
 have hp1 : (movPs (spotOf F π s) (spotOf F π t)).length ≤ 5 := by
  unfold movPs
  split
  ·exact Nat.le_refl 5
  ·show 2 ≤ 5; decide
 have hp2 : (movPs (spotOf F1 π1 ⟨t.dir,t.name,s.ino⟩) (spotOf F1 π1 ⟨s.dir,s.name,0⟩)).length ≤ 5 := by
  unfold movPs
  split
  ·exact Nat.le_refl 5
  ·show 2 ≤ 5; decide
 refine ⟨hp1,rfl,hp2,?_⟩
 have lk2 := lik_mov (s := ⟨t.dir,t.name,s.ino⟩) (t := ⟨s.dir,s.name,0⟩) st1.ws.nod htd1 (by rw [tdk1,htk]) hd1 (by rw [dk1]; exact hs.dk) (decide (n1.kind = 2))
 have hE2 : ∀ c x,entF (moveAt F1 ⟨t.dir,t.name,s.ino⟩ ⟨s.dir,s.name,0⟩ (decide (n1.kind = 2))) c x = entF F c x := by
  obtain ⟨E,hE,hEn,hEi⟩ : ∃ E,E ∈ td1.ents ∧ E.name = t.name ∧ E.ino = s.ino := by
   have h5 := e1
   obtain ⟨z,y,z1,z2,z3,z4⟩ := entF_mem (F := F1) (d := t.dir) (nm := t.name) (by rw [e1]; exact s0)
   rw [htd1] at z1
   injection z1 with z1
   subst z1
   exact ⟨y,z2,z3,by rw [z4,e1]⟩
  have tnm : nameOk t.name = true := by rw [← hEn]; exact w1.name td1 (node_mem htd1).1 E hE
  have sit1 : Sit F1 ⟨t.dir,t.name,s.ino⟩ td1 n1 E := ⟨htd1,by rw [tdk1,htk],tnm,hE,hEn,hEi,hn1,hs.i0,hs.i1,hs.i2⟩
  obtain ⟨mv2,_⟩ := mov_mv (t := ⟨s.dir,s.name,0⟩) st1 sit1 hd1 e2 (decide (n1.kind = 2))
  intro c x
  have q1 := mv2.ent c x
  dsimp only at q1
  rw [q1,mv.ent]
  by_cases y1 : c = s.dir ∧ x = s.name
  ·rw [if_pos y1,y1.1,y1.2,o4]
  ·rw [if_neg y1]
   by_cases y2 : c = t.dir ∧ x = t.name
   ·rw [if_pos y2,y2.1,y2.2,p4]
   ·rw [if_neg y2,if_neg y2,if_neg y1]
 have hnodes := same_nodes w st2.sim.wf h.ws.data st2.ws.data (lk.trans lk2) hE2
 refine same_shown h.sim st2.sim hnodes ?_ h.rise st2.rise h.gone st2.gone
 by_cases hdk : n.kind = 2
 ·have r1 := root_there h.sim a (i := s.ino) (by rw [dir_some hs.node]; exact decide_eq_true hdk) s1
  have acs2 := ren_ac st1 a1 path old
  rw [hM2] at acs2
  have r2 := root_there st2.sim acs2.1 (i := s.ino) (by rw [dir_eq (hnodes s.ino),dir_some hs.node]; exact decide_eq_true hdk) s1
  exact ⟨fun z => absurd z r1,fun z => absurd z r2⟩
 ·have i0 := h.ws.ino
  have hsd := h.ws.ino d (node_mem hs.dir).1
  rw [(node_mem hs.dir).2] at hsd
  have htdi := h.ws.ino td (node_mem htd).1
  rw [(node_mem htd).2] at htdi
  have gs : goodN s.name := good_of hs.nm
  have gt : goodN t.name := by
   have hc := h.ws
   obtain ⟨E,hE⟩ : ∃ E : En,E.name = t.name ∧ nameOk E.name = true := by
    obtain ⟨z,y,z1,z2,z3,z4⟩ := entF_mem (F := F1) (d := t.dir) (nm := t.name) (by rw [e1]; exact s0)
    exact ⟨y,z3,w1.name z (node_mem z1).1 y z2⟩
   rw [← hE.1]
   exact good_of hE.2
  have k1 : kI 1 ≠ kE s.dir s.name := kIE (by omega) (by omega) (by omega) hsd.2 gs
  have k2 : kI 1 ≠ kE t.dir t.name := kIE (by omega) (by omega) (by omega) htdi.2 gt
  have m1 : movPs (spotOf F π s) (spotOf F π t) = [unhangP s.dir s.name,hangP t.dir t.name s.ino] := by
   unfold movPs
   rw [if_neg (fun z => hdk (by rw [← hnk]; exact z.1))]
   rfl
  have m2 : movPs (spotOf F1 π1 ⟨t.dir,t.name,s.ino⟩) (spotOf F1 π1 ⟨s.dir,s.name,0⟩) = [unhangP t.dir t.name,hangP s.dir s.name s.ino] := by
   unfold movPs
   rw [if_neg (fun z => hdk (by rw [← nk1,← hnk1]; exact z.1))]
   rfl
  rw [m1] at hL1
  have g1 : DirsX.gk L1 (kI 1) = DirsX.gk L (kI 1) := by
   rw [← hL1]
   show DirsX.gk (doneW (doneW L (unhangP s.dir s.name L)) (hangP t.dir t.name s.ino _)) (kI 1) = _
   rw [gk_off (rise_done h.rise _) (p := hangP t.dir t.name s.ino) k2,gk_off h.rise (p := unhangP s.dir s.name) k1]
  rw [m2]
  show _ ↔ DirsX.gk (doneW (doneW L1 (unhangP t.dir t.name L1)) (hangP s.dir s.name s.ino _)) (kI 1) = none
  rw [gk_off (rise_done st1.rise _) (p := hangP s.dir s.name s.ino) k1,gk_off st1.rise (p := unhangP t.dir t.name) k2,g1]
theorem none_linked {A : Fs} (h : Nod A) {i y j : Int} (hj : nodeM A j = none) : nodeM (linkedM A i y) j = none := by
 cases hn : nodeM A i with
 | none => unfold linkedM; rw [hn]; exact hj
 | some n => rw [node_linked h hn,if_neg (fun e => by rw [e,hn] at hj; cases hj)]; exact hj
theorem lnk_back (h : St F π L k) (a : Ac F) (hk : k + 2 ≤ 900) (old path : ByteArray) {t : Spt} (hf : fndM F path = (t,0)) (t0 : t.ino = 0) (he : (lnkV L old path).1 = 0) :
 (lnkV L old path).2.length ≤ 5 ∧ (ulkV (outW L (lnkV L old path).2) path).1 = 0 ∧ (ulkV (outW L (lnkV L old path).2) path).2.length ≤ 5 ∧ outW (outW L (lnkV L old path).2) (ulkV (outW L (lnkV L old path).2) path).2 = L := by
 have dd := lnk_did h (by omega) old path
 obtain ⟨hfo,hled⟩ := h.sim.find old
 obtain ⟨hfp,hledp⟩ := h.sim.find path
 rw [hf] at hfp hledp
 obtain ⟨⟨s,er⟩,hR⟩ : ∃ R,fndM F old = R := ⟨_,rfl⟩
 rw [hR] at hfo hled
 dsimp only at hfo hled hfp hledp
 have w := h.sim.wf
 have nF := h.ws.nod
 have er0 : er = 0 := by
  by_cases q : er = 0
  ·exact q
  ·exfalso
   unfold lnkV at he
   rw [hfo] at he
   dsimp only at he
   rw [if_pos q] at he
   exact q he
 subst er0
 have s0 : s.ino ≠ 0 := fun q => by
  unfold lnkV at he
  rw [hfo] at he
  dsimp only at he
  rw [if_neg (fun z => z rfl),if_pos (show (spotOf F π s).ino = 0 from q)] at he
  cases he
 obtain ⟨n,hn⟩ := (hled rfl).at_.resolve_left s0
 have hnm := node_mem hn
 have hnk : (spotOf F π s).node.k = n.kind := by rw [spot_k h hn]; rfl
 have hnl : (spotOf F π s).node.l = n.links := by rw [spot_k h hn]; rfl
 have hk1 : n.kind = 1 := by
  by_cases q : n.kind = 1
  ·exact q
  ·exfalso
   unfold lnkV at he
   rw [hfo] at he
   dsimp only at he
   rw [if_neg (fun z => z rfl),if_neg (show ¬ (spotOf F π s).ino = 0 from s0),hnk,if_pos q] at he
   cases he
 have hl9 : ¬ 1000 ≤ n.links := fun q => by
  unfold lnkV at he
  rw [hfo,hfp] at he
  dsimp only at he
  rw [if_neg (fun z => z rfl),if_neg (show ¬ (spotOf F π s).ino = 0 from s0),hnk,if_neg (fun z => z hk1),if_neg (fun z => z rfl),if_neg (show ¬ (spotOf F π t).ino ≠ 0 from fun z => z t0),hnl,if_pos q] at he
  cases he
 obtain ⟨q,p1,p2,p3,p4⟩ := fnd_pth w hf (by omega)
 rw [t0] at p4
 obtain ⟨td,htd,htk⟩ := dir_mem p3
 have otd := h.ws.ord td (node_mem htd).1
 have hpos := w.pos n hnm.1 hk1
 have hV : lnkV L old path = (0,[hangP t.dir t.name s.ino,saveP s.ino n.kind (n.links + 1) (spotOf F π s).node.s (spotOf F π s).node.p]) := by
  unfold lnkV
  rw [hfo,hfp]
  dsimp only
  rw [if_neg (fun z => z rfl),if_neg (show ¬ (spotOf F π s).ino = 0 from s0),hnk,if_neg (fun z => z hk1),if_neg (fun z => z rfl),if_neg (show ¬ (spotOf F π t).ino ≠ 0 from fun z => z t0),hnl,if_neg hl9]
  rfl
 have hM : linkM F old path = (0,namedM (linkedM F s.ino 1) t.dir t.name s.ino) := by
  unfold linkM
  rw [hR,hf]
  dsimp only
  rw [if_neg (fun z => z rfl),if_neg s0,hn]
  dsimp only
  rw [if_neg (by omega),if_neg (fun z => z rfl),if_neg (fun z => z t0),if_neg hl9]
 rw [hM,hV] at dd
 rw [hV]
 dsimp only at dd ⊢
 obtain ⟨π1,st1⟩ := dd.st
 dsimp only at st1
 have ned : t.dir ≠ s.ino := fun e => by
  rw [e,hn] at htd
  injection htd with htd
  rw [← htd] at htk
  omega
 have nA := nod_linked (by_ := 1) nF hn
 have dA : nodeM (linkedM F s.ino 1) t.dir = some td := by rw [node_linked nF hn,if_neg ned]; exact htd
 have hE1 : ∀ c x,entF (namedM (linkedM F s.ino 1) t.dir t.name s.ino) c x = if c = t.dir ∧ x = t.name then s.ino else entF F c x := fun c x => by rw [entF_named nA dA otd,entF_linked nF]
 have hd1 : ∀ j,dirB (namedM (linkedM F s.ino 1) t.dir t.name s.ino) j = dirB F j := fun j => by rw [dir_named nA dA,dir_linked nF]
 have pt1 : Pth (namedM (linkedM F s.ino 1) t.dir t.name s.ino) t.dir q := p2.more (fun c x hx => by
  rw [hE1,if_neg]
  rintro ⟨rfl,rfl⟩
  exact hx p4)
 obtain ⟨n1,hn1,nk1,nl1,_⟩ := linked_at (y := 1) nF hn hn
 rw [if_pos rfl] at nl1
 obtain ⟨n2,hn2,nk2,nl2,_,_,_⟩ := named_at (i := s.ino) (nm := t.name) nA dA hn1
 obtain ⟨td2,htd2,tk2,_,_,_,tq⟩ := named_at (i := s.ino) (nm := t.name) nA dA dA
 have otd2 : Ord td2.ents := by rw [tq rfl]; exact ord_ins otd _ _
 generalize hF1 : namedM (linkedM F s.ino 1) t.dir t.name s.ino = F1 at *
 have w1 := st1.sim.wf
 have f1 := fnd_of w1 pt1 (by rw [hd1]; exact p3) p1 (fnd_er hf)
 rw [hE1,if_pos ⟨rfl,rfl⟩] at f1
 have hf1 := (st1.sim.find path).1
 rw [f1] at hf1
 dsimp only at hf1
 have dd2 := ulk_did st1 (by omega) path
 have hx1 : (spotOf F1 π1 ⟨t.dir,t.name,s.ino⟩).node = inoL π1 n2 := spot_k st1 (s := ⟨t.dir,t.name,s.ino⟩) hn2
 have hV2 : ∃ z y,ulkV (outW L [hangP t.dir t.name s.ino,saveP s.ino n.kind (n.links + 1) (spotOf F π s).node.s (spotOf F π s).node.p]) path = (0,[unhangP t.dir t.name,saveP s.ino n2.kind (n2.links - 1) z y]) := by
  unfold ulkV
  rw [hf1]
  dsimp only
  rw [if_neg (fun z => z rfl),if_neg (show ¬ (spotOf F1 π1 ⟨t.dir,t.name,s.ino⟩).ino = 0 from s0)]
  unfold unlV
  rw [hx1,if_neg (show ¬ (inoL π1 n2).k ≠ 1 by show ¬ n2.kind ≠ 1; omega),if_pos (show 1 < (inoL π1 n2).l by show 1 < n2.links; omega)]
  exact ⟨_,_,rfl⟩
 obtain ⟨z,y,hV2⟩ := hV2
 have hM2 : unlinkM F1 path = (0,namedM (linkedM F1 s.ino (-1)) t.dir t.name 0) := by
  unfold unlinkM
  rw [f1]
  dsimp only
  rw [if_neg (fun z => z rfl),if_neg s0]
  unfold unlinkAt
  rw [hn2]
  dsimp only
  rw [if_neg (by omega),if_neg (by omega)]
 rw [hM2,hV2] at dd2
 rw [hV2]
 dsimp only at dd2 ⊢
 obtain ⟨π2,st2⟩ := dd2.st
 dsimp only at st2
 refine ⟨by show 2 ≤ 5; decide,rfl,by show 2 ≤ 5; decide,?_⟩
 have nF1 := st1.ws.nod
 have nB := nod_linked (by_ := -1) nF1 hn2
 have dB : nodeM (linkedM F1 s.ino (-1)) t.dir = some td2 := by rw [node_linked nF1 hn2,if_neg ned]; exact htd2
 have hE2 : ∀ c x,entF (namedM (linkedM F1 s.ino (-1)) t.dir t.name 0) c x = entF F c x := fun c x => by
  rw [entF_named nB dB otd2,entF_linked nF1,hE1]
  by_cases e : c = t.dir ∧ x = t.name
  ·rw [if_pos e,e.1,e.2,p4]
  ·rw [if_neg e,if_neg e]
 have lk : Lik F (namedM (linkedM F1 s.ino (-1)) t.dir t.name 0) := fun j => by
  refine ⟨fun m hm => ?_,fun hm => ?_⟩
  ·obtain ⟨a1,b1,c1,d1,_⟩ := linked_at (y := 1) nF hn hm
   obtain ⟨a2,b2,c2,d2,_,_,_⟩ := named_at (i := s.ino) (nm := t.name) nA dA b1
   rw [hF1] at b2
   obtain ⟨a3,b3,c3,d3,_⟩ := linked_at (y := -1) nF1 hn2 b2
   obtain ⟨a4,b4,c4,d4,_,_,_⟩ := named_at (i := 0) (nm := t.name) nB dB b3
   refine ⟨a4,b4,by rw [c4,c3,c2,c1],fun _ => ?_⟩
   rw [d4,d3,d2,d1]
   split <;> omega
  ·rw [node_named nB dB,if_neg (fun e => by rw [e,htd] at hm; cases hm)]
   refine none_linked nF1 ?_
   rw [← hF1,node_named nA dA,if_neg (fun e => by rw [e,htd] at hm; cases hm)]
   exact none_linked nF hm
 have hnodes := same_nodes w st2.sim.wf h.ws.data st2.ws.data lk hE2
 refine same_shown h.sim st2.sim hnodes ?_ h.rise st2.rise h.gone st2.gone
 have hni := h.ws.ino n hnm.1
 rw [hnm.2] at hni
 have s1 : s.ino ≠ 1 := fun e => by
  obtain ⟨r,hr,hrk⟩ := w.root
  rw [e,hr] at hn
  injection hn with hn
  rw [← hn] at hk1
  omega
 have htdi := h.ws.ino td (node_mem htd).1
 rw [(node_mem htd).2] at htdi
 have gt : goodN t.name := by
  obtain ⟨z,y,z1,z2,z3,z4⟩ := entF_mem (F := F1) (d := t.dir) (nm := t.name) (by rw [hE1,if_pos ⟨rfl,rfl⟩]; exact s0)
  rw [← z3]
  exact good_of (w1.name z (node_mem z1).1 y z2)
 have k1 : kI 1 ≠ kE t.dir t.name := kIE (by omega) (by omega) (by omega) htdi.2 gt
 have k2 : kI 1 ≠ kI s.ino := fun e => s1 (kI_inj (by omega) (by omega) (by omega) hni.2 e).symm
 simp only [outW]
 have r1 := rise_done h.rise (hangP t.dir t.name s.ino L)
 have r2 := rise_done r1 (saveP s.ino n.kind (n.links + 1) (spotOf F π s).node.s (spotOf F π s).node.p (doneW L (hangP t.dir t.name s.ino L)))
 have r3 := rise_done r2 (unhangP t.dir t.name (doneW (doneW L (hangP t.dir t.name s.ino L)) (saveP s.ino n.kind (n.links + 1) (spotOf F π s).node.s (spotOf F π s).node.p (doneW L (hangP t.dir t.name s.ino L)))))
 rw [gk_off (p := saveP s.ino n2.kind (n2.links - 1) z y) r3 k2,gk_off (p := unhangP t.dir t.name) r2 k1,gk_off (p := saveP s.ino n.kind (n.links + 1) (spotOf F π s).node.s (spotOf F π s).node.p) r1 k2,gk_off (p := hangP t.dir t.name s.ino) h.rise k1]
theorem go_room : ∀ (ps : List Wrt) {s : Vs},s.wr.length + ps.length ≤ 48 → (goW s ps).2 = true ∧ (goW s ps).1.wr.length ≤ s.wr.length + ps.length
 | [],s,_ => ⟨rfl,Nat.le_refl _⟩
 | p :: ps,s,h => by
   rw [List.length_cons] at h
   have hf : fullW s.wr (p s.shown) = false := by
    unfold fullW
    rw [decide_eq_false (by omega)]
    simp
   rw [goW_room hf]
   have hw : (s.write (p s.shown)).wr.length ≤ s.wr.length + 1 := by
    unfold Vs.write
    rw [if_neg (by rw [hf]; decide)]
    show (writeW s.base s.wr (p s.shown)).length ≤ _
    unfold writeW
    split
    ·exact Nat.le_succ_of_le (List.length_filter_le _ _)
    ·exact putP_len _ _
   have := go_room ps (s := s.write (p s.shown)) (by omega)
   rw [List.length_cons]
   exact ⟨this.1,by omega⟩
end
end Go.Proofs.YtfalhnomhidkcaaGreatDoor.DirsTb
namespace Go.Proofs.YtfalhnomhidkcaaGreatDoor.DirsQ
open Go.RowKit
open Byte KeysM TreeM ViewM NamesM NamesL Lst Ho WalkM WalkF Chg TreeL ViewL WalkV Vat DirsM DirsV DirsR DirsW DirsY DirsS DirsZ DirsK DirsKc DirsLc DirsLd DirsLf
open DirsX hiding gk
open WalkL
open Own hiding keeps
open ViewR (Sh)
open TreeR (prE GotV)
variable {Rep : RepT}
open WalkKm
open DirsKa (blkB Ans.split)
open DirsZb (ren_did)
open DirsZa (lnk_did)
def RangeN (Rep : RepT) : Prop := ∀ ⦃w v s S D⦄ (x y : ByteArray),Rep w v s S D → Lim s → x.size ≤ 200000000000000 → y.size ≤ 200000000000000 → Calls Tryz.prog 23 #[v,.string x,.string y] w fun e w' => ∃ (r : Sh) (S' D' : Nat → Prop),e = .returned (.slice r.a r.n r.c) ∧ Sl prE w' r.a r.n (s.rangeOf x y) ∧ (∀ b o,r.a = some ⟨b,o,none⟩ → w.heap.size ≤ b ∧ ¬ D' b) ∧ Rep w' v (s.ranged x y) S' D' ∧ Stp S D S' D' w w'
theorem eqpr (k v : ByteArray) (g : Bool) (w : World) : (Op.equalIn 10000 46 (.agg #[.string k,.string v,.bool g]) (.agg #[.string k,.string v,.bool g])).run Tryz.prog w = .ok true w := by
 have u1 := Tryz.underlying9
 have u2 := Tryz.underlying4
 rw [show (10000 : Nat) = 9999 + 1 from rfl,run_equalIn_struct w 9999 46 _ _ (by kernel_rfl) (by kernel_rfl)]
 have hfs : Tryz.prog.fieldsOf 46 = (match Tryz.prog.underlying 46 with | some (.struct fs) => fs | _ => #[]) := rfl
 rw [hfs,Tryz.underlying46]
 go_simp
theorem alike_calls (ra rb : Option Addr) (n ca cb : Nat) (L : List Pr) (w : World) (h1 : Sl prE w ra n L) (h2 : Sl prE w rb n L) (hn : n ≤ 2000) :
 Calls Tryz.prog 30 #[.slice ra n ca,.slice rb n cb] w fun e w' => e = .returned (.bool true) ∧ Below w.heap.size w w' := by
 have H1 := hQ_ h1
 have H2 := hQ_ h2
 have e0 : ((n : Int) != (n : Int)) = false := by simp
 clear h1 h2
 go_enter Tryz.func30,Tryz.ntmps30
 go_wp2_with fail
 clear e0
 go_loopw [13] (fun q wr => ∃ j : Nat,j ≤ n ∧ q = .int .i64 j ∧ Hid (Below w.heap.size w wr)) (fun q _ => n - (intOf q).toNat)
 case atStart => exact ⟨0,Nat.zero_le _,rfl,hQ_ (Below.refl _ _)⟩
 case round =>
  obtain ⟨j,hj,rfl,HB⟩ := hrel
  by_cases hlt : j < n
  ·obtain ⟨x,g,o,hx,rfl,hg,hcl⟩ := (H1.out.below HB.out).get j hlt
   obtain ⟨x2,g2,o2,hx2,rfl,hg2,hcl2⟩ := (H2.out.below HB.out).get j hlt
   rw [hx] at hx2
   injection hx2 with hx2
   subst hx2
   obtain ⟨k,v,gn⟩ := x
   have EQ := eqpr k v gn
   have RD : Hid (∀ u,Below wr.heap.size wr u → Below wr.heap.size wr u ∧ u.cell? ⟨g,o + j * 3,none⟩ = some (.string k) ∧ u.cell? ⟨g,o + j * 3 + 1,none⟩ = some (.string v) ∧ u.cell? ⟨g,o + j * 3 + 2,none⟩ = some (.bool gn) ∧ u.cell? ⟨g2,o2 + j * 3,none⟩ = some (.string k) ∧ u.cell? ⟨g2,o2 + j * 3 + 1,none⟩ = some (.string v) ∧ u.cell? ⟨g2,o2 + j * 3 + 2,none⟩ = some (.bool gn)) := hQ_ (fun u hv => (by
    have z1 : ∀ i y,[Value.string k,.string v,.bool gn][i]? = some y → u.cell? ⟨g,o + j * 3 + i,none⟩ = some y := fun i y hy => (hv.cell (p := ⟨g,o + j * 3 + i,none⟩) hg).trans (hcl i y hy)
    have z2 : ∀ i y,[Value.string k,.string v,.bool gn][i]? = some y → u.cell? ⟨g2,o2 + j * 3 + i,none⟩ = some y := fun i y hy => (hv.cell (p := ⟨g2,o2 + j * 3 + i,none⟩) hg2).trans (hcl2 i y hy)
    exact ⟨hv,z1 0 _ rfl,z1 1 _ rfl,z1 2 _ rfl,z2 0 _ rfl,z2 1 _ rfl,z2 2 _ rfl⟩))
   clear hx hcl hcl2 hg hg2
   go_wp2_with fail
   refine wp_region_held_drew (S := fun u => Below wr.heap.size wr u ∧ u.cell? ⟨g,o + j * 3,none⟩ = some (.string k) ∧ u.cell? ⟨g,o + j * 3 + 1,none⟩ = some (.string v) ∧ u.cell? ⟨g,o + j * 3 + 2,none⟩ = some (.bool gn) ∧ u.cell? ⟨g2,o2 + j * 3,none⟩ = some (.string k) ∧ u.cell? ⟨g2,o2 + j * 3 + 1,none⟩ = some (.string v) ∧ u.cell? ⟨g2,o2 + j * 3 + 2,none⟩ = some (.bool gn)) (by kernel_rfl) (RD.out _ (Below.refl _ _).drew) (fun hHeld => ?_)
   refine hw_ 0 (some 16) ?_
   refine hw_ 1 (some 17) ?_
   refine hw_ 2 (some 18) ?_
   refine hw_ 3 (some 19) ?_
   refine hw_ 4 (some 20) ?_
   refine hw_ 5 (some 21) ?_
   refine hw_ 6 (some 22) ?_
   refine hw_ 7 (some 23) ?_
   refine hw_ 8 (some 24) ?_
   refine wpAnyH_done (by kernel_rfl) ?_ _
   go_wp2_with fail
   go_roundw
   case rel => exact ⟨j + 1,by omega,by go_num,hQ_ (HB.out.drew)⟩
   case measure => simp [intOf]; omega
  ·obtain rfl : j = n := by omega
   go_wp2_with fail
   go_ret
   exact ⟨rfl,HB.out⟩
structure Th (Rep : RepT) (w0 : World) (S0 D0 : Nat → Prop) (ra : Option Addr) (rn : Nat) (L : List Pr) (u : World) (v : Value) (s : Vs) (S D : Nat → Prop) (N R G : Nat) : Prop where
 A : At Rep w0 S0 D0 (fun b => 0 < rn ∧ ∃ o,ra = some ⟨b,o,none⟩) u v s S D
 row : Sl prE u ra rn L
 mx : Mxs u S
 base : s.base.length ≤ 1000
 wr : s.wr.length ≤ N
 rd : s.rd.length ≤ R
 rg : s.rg.length ≤ G
section
variable {w0 u u' : World} {S0 D0 S D S' D' : Nat → Prop} {ra : Option Addr} {rn : Nat} {L : List Pr} {v : Value} {s s' : Vs} {N R G N' R' G' : Nat}
theorem Th.step (hS : Stays Rep) (t : Th Rep w0 S0 D0 ra rn L u v s S D N R G) (hr : Rep u' v s' S' D') (st : Stp S D S' D' u u') (hb : s'.base = s.base) (h1 : s'.wr.length ≤ N') (h2 : s'.rd.length ≤ R') (h3 : s'.rg.length ≤ G') : Th Rep w0 S0 D0 ra rn L u' v s' S' D' N' R' G' := by
 refine ⟨t.A.step hS hr st,?_,t.mx.step st,by rw [hb]; exact t.base,h1,h2,h3⟩
 by_cases h0 : 0 < rn
 ·exact t.A.sl hS t.row (fun b o e => ⟨h0,o,e⟩) st
 ·have hn : rn = 0 := by omega
  have hl : L = [] := List.eq_nil_of_length_eq_zero (by rw [← hn]; exact t.row.1)
  refine ⟨by rw [hl,hn]; rfl,fun k x hx => ?_⟩
  rw [hl] at hx
  simp at hx
theorem Th.below (hS : Stays Rep) (t : Th Rep w0 S0 D0 ra rn L u v s S D N R G) (hb : Below u.heap.size u u') : Th Rep w0 S0 D0 ra rn L u' v s S D N R G :=
 ⟨t.A.below hS hb,t.row.below hb,t.mx.below hb,t.base,t.wr,t.rd,t.rg⟩
theorem Th.lim (t : Th Rep w0 S0 D0 ra rn L u v s S D N R G) (h1 : R ≤ 18000) (h2 : G ≤ 900) : Lim s := ⟨t.base,by have := t.rd; omega,by have := t.rg; omega⟩
end
theorem st_letters {F : Fs} {π : Int → Int} {L : List Pr} {k : Nat} (st : St F π L k) : (∀ p ∈ L,(sp p.key).letter ≠ 0) ∧ ∀ p ∈ L,∀ i,blkB i p = false := by
 have hl := fun p hp => st.sim.letter st.rise st.ws.data (p := p) hp
 refine ⟨fun p hp => ?_,fun p hp i => ?_⟩
 ·rcases hl p hp with q | q <;> rw [q] <;> decide
 ·unfold blkB
  rcases hl p hp with q | q <;> rw [q] <;> simp
theorem ranged_same (s : Vs) (a b : ByteArray) : (s.ranged a b).shown = s.shown ∧ (s.ranged a b).base = s.base ∧ (s.ranged a b).wr = s.wr ∧ (s.ranged a b).rd = s.rd ∧ (s.ranged a b).rg.length ≤ s.rg.length + 1 := by
 unfold Vs.ranged
 split
 ·exact ⟨rfl,rfl,rfl,rfl,ViewP.add_len _ _ _⟩
 ·exact ⟨rfl,rfl,rfl,rfl,Nat.le_succ _⟩
theorem room_of {s : Vs} {N : Nat} (ps : List Wrt) (h1 : s.wr.length ≤ N) (h2 : ps.length ≤ 5) (h3 : N ≤ 40) : (goW s ps).2 = true ∧ (goW s ps).1.wr.length ≤ N + 5 := by
 have := DirsTb.go_room ps (s := s) (by omega)
 exact ⟨this.1,by omega⟩
theorem there_law (hW : Wk Rep) (hN : NewB Rep) (hRn : RangeN Rep) (A : Option Addr) (n c : Nat) (ops : List Op18) (old path : ByteArray) (w : World) (hl : Sl opE w A n ops) (hn : n ≤ c) (hc : c ≤ maxLen) (hf : ∀ p ∈ ops,OpB p) (hp : old.size ≤ 9223372036854775807) (ho : path.size ≤ 9223372036854775807) (hmx : Mx w) :
 Calls Tryz.prog 6 #[.slice A n c,.string old,.string path] w fun e w' => e = .returned (.bool true) ∧ Below w.heap.size w w' := by
 have HMX := hQ_ hmx
 have HN := hQ_ hN
 have HW := hQ_ hW
 have HRN := hQ_ hRn
 have HL := hQ_ hl
 have HOB := hQ_ hf
 have HF0 := hQ_ (DirsLe.fixed_calls hW hN w hmx)
 have HB0 := hQ_ (Below.refl w.heap.size w)
 clear hmx hN hW hl hf hRn
 by_cases h1 : 1000 < old.size
 ·have t1 : decide (1000 < old.size) = true := decide_eq_true h1
  have t1' : decide ((1000 : Int) < (old.size : Int)) = true := decide_eq_true (by omega)
  go_enter Tryz.func6,Tryz.ntmps6
  go_wp2_with fail
  refine HF0.out.mono ?_
  rintro e w9 ⟨rfl,hb9⟩
  have HB9 := hQ_ hb9
  clear hb9
  go_wp2_with fail
  go_ret
  exact ⟨rfl,HB9.out⟩
 have t1 : decide (1000 < old.size) = false := decide_eq_false h1
 have t1' : decide ((1000 : Int) < (old.size : Int)) = false := decide_eq_false (by omega)
 by_cases h2 : 1000 < path.size
 ·have t2 : decide (1000 < path.size) = true := decide_eq_true h2
  have t2' : decide ((1000 : Int) < (path.size : Int)) = true := decide_eq_true (by omega)
  go_enter Tryz.func6,Tryz.ntmps6
  go_wp2_with fail
  refine HF0.out.mono ?_
  rintro e w9 ⟨rfl,hb9⟩
  have HB9 := hQ_ hb9
  clear hb9
  go_wp2_with fail
  go_ret
  exact ⟨rfl,HB9.out⟩
 have t2 : decide (1000 < path.size) = false := decide_eq_false h2
 have t2' : decide ((1000 : Int) < (path.size : Int)) = false := decide_eq_false (by omega)
 have hold : old.size ≤ 1000 := by omega
 have hpath : path.size ≤ 1000 := by omega
 go_enter Tryz.func6,Tryz.ntmps6
 go_upto_region 3 with (fail)
 clear t1 t1' t2 t2' h1 h2
 go_wp2_with fail
 refine (TreeG.new_calls _).mono ?_
 rintro e w1 ⟨v0,h0,rfl,hr0,hb1⟩
 have HB1 := hQ_ (Own.keeps HB0.out hb1)
 have HR0 := hQ_ hr0
 clear hb1 hr0
 go_wp2_with fail
 refine (HN.out HR0.out (Nat.zero_le _) (fun p hp => by cases hp)).mono ?_
 rintro e w2 ⟨v,S,D,rfl,hr2,hS2,hD2,hb2⟩
 have HB2 := hQ_ (Own.keeps HB1.out hb2)
 have HS2 : Hid (∀ b,S b → w.heap.size ≤ b) := hQ_ (fun b hb => Nat.le_trans HB1.out.size (hS2 b hb))
 have A2 := hQ_ (At.start hr2)
 have ML : Hid (0 < w.heap.size) := hQ_ (by
  obtain ⟨m,hm⟩ := HMX.out
  exact World.block_lt_of_cell? w ⟨0,0,none⟩ hm)
 clear hb2 hr2 hS2 hD2
 go_wp2_with fail
 refine (DirsRc.new_calls (T := fun b => w2.heap.size ≤ b) _ (fun b hb => hb)).mono ?_
 rintro e w3 ⟨hh,rfl,hf3,hb3⟩
 have hb4 := bN_ w3 (.cells #[.slice hh.a hh.n hh.c] 29)
 have A4 := (A2.out.below HW.out.stays hb3).own HW.out.stays hb4 (Nat.le_refl _) (by simp)
 have P4 : Hid (Pl Rep w2 S D w3.heap.size (w3.alloc (.cells #[.slice hh.a hh.n hh.c] 29)) v ⟨[],[],[],[]⟩ S D hh F0 0) := hQ_ (by
  refine ⟨⟨⟨A4.rep,?_,?_,⟨_,st0⟩,Nat.zero_le _,Nat.zero_le _,Nat.zero_le _,Nat.zero_le _,ac0⟩,fun n hn => by rw [mem0 hn]; show (1 : Int) ≤ ((0 : Nat) : Int) + 1; omega⟩,A4.less (fun b hb => .inr hb),Blk.new_ _ _ _,by have := ML.out; have := HB2.out.size; have := hb3.size; omega⟩
  ·exact (hf3.chg (S := fun _ => False) (Chg.refl _ w3) (fun b hb hlt => ⟨fun h => h,fun hs => by have := HW.out.stays.lt A2.out.rep b (HW.out.stays.sub A2.out.rep b hs); omega,by omega⟩)).below hb4
  ·exact ⟨((HMX.out.below HB2.out).below hb3).below hb4,fun hs => by have h1 := HS2.out _ hs; have h2 := ML.out; omega⟩)
 have HB4 : Hid (Below w.heap.size w (w3.alloc (.cells #[.slice hh.a hh.n hh.c] 29))) := hQ_ ((Own.keeps HB2.out hb3).alloc (Nat.le_trans HB2.out.size hb3.size) _)
 clear hf3 hb3 hb4 A4
 go_wp2_with fail
 refine (cut_calls A n c ops _ (HL.out.below HB4.out) hn hc HOB.out).mono ?_
 rintro e w5 ⟨m,rfl,hmn,hm60,hgood,hb5⟩
 have P5 := hQ_ (P4.out.below HW.out.stays hb5)
 have HGO := hQ_ hgood
 have G5 : Hid (Gl ⟨[],[],[],[]⟩) := hQ_ ⟨rfl,fun p hp => by cases hp⟩
 clear hgood hb5
 go_wp2_with fail
 generalize hgm : w3.heap.size = gm at *
 go_loopw [32] (fun i wr => ∃ (k : Nat) (s : Vs) (S' D' : Nat → Prop) (h : Sh) (F : Fs),k ≤ m ∧ i = .int .i64 k ∧ Hid (Pl Rep w2 S D gm wr v s S' D' h F k) ∧ Hid (Gl s)) (fun i _ => m - (intOf i).toNat)
 case atStart => exact ⟨0,_,S,D,hh,F0,Nat.zero_le _,rfl,P5,G5⟩
 case round =>
  obtain ⟨k,s,S',D',h,F,hk,rfl,HP,HGL⟩ := hrel
  have BW : Hid (Below w.heap.size w wr) := hQ_ (below_chg HB2.out HP.out.A.st.chg HS2.out (Nat.le_refl _))
  have HFX := hQ_ (fun u (hm : Mx u) => DirsLe.fixed_calls HW.out HN.out u hm)
  by_cases hlt : k < m
  ·obtain ⟨x,g,o,hx,rfl,hg,hcl⟩ := (HL.out.below BW.out).get k (by omega)
   have hgx := HGO.out x (List.mem_of_getElem? (by rw [List.getElem?_take_of_lt hlt]; exact hx))
   obtain ⟨kind',path',other'⟩ := x
   have HC : Hid (wr.rangeAt g (o + k * 3) [.int .i64 kind',.string path',.string other']) := hQ_ hcl
   have hb6 := bN_ wr (.cells #[.int .i64 kind',.string path',.string other'] 33)
   have P6 := hQ_ (HP.out.below HW.out.stays hb6)
   have HDO := hQ_ (do_calls HW.out (fun b hb e => by have := P6.out.M.lt; omega) P6.out.B (by omega) kind' path' other' (by have := hgx.1; dsimp only at this; omega) (by have := hgx.2; dsimp only at this; omega))
   have m6 := cZ0 P6.out.M
   have q60 : (2 + (k : Int)) % 4294967296 = 2 + k := by omega
   clear hcl hx hgx hb6
   go_wp2_with ((with_reducible refine pick (some 36) ?_); refine wpList_load_mid rfl 33 _ rfl g (o + k * 3) rfl _ _ HC.out Tryz.underlying33 rfl info_op ?_)
   refine HDO.out.mono ?_
   rintro e w7 ⟨s',S'',D'',h',hr7,st7,hway⟩
   have A7 := hQ_ (at_new P6.out.A hr7 st7)
   have M7 := hQ_ (P6.out.A.blk HW.out.stays P6.out.M rfl st7)
   have X7 := hQ_ (P6.out.B.mx.step st7)
   have BW7 : Hid (Below w.heap.size w w7) := hQ_ (below_chg HB2.out A7.out.st.chg HS2.out (Nat.le_refl _))
   rcases hway with rfl | ⟨F',rfl,hB7,hG7⟩
   ·clear hr7 st7 m6
    go_wp2_with fail
    have hb8 := bN_ w7 (.cells #[.slice h'.a h'.n h'.c] 29)
    refine (HFX.out _ (X7.out.1.below hb8)).mono ?_
    rintro e w9 ⟨rfl,hb9⟩
    have HB9 := hQ_ (Own.keeps hb8 hb9)
    clear hb8 hb9
    go_wp2_with fail
    go_ret
    exact ⟨rfl,Own.keeps BW7.out HB9.out⟩
   ·have hb8 := bN_ w7 (.cells #[.slice h'.a h'.n h'.c] 29)
    have A8 := hQ_ (A7.out.below HW.out.stays hb8)
    have M8 := hQ_ (M7.out.below hb8)
    have B8 := hQ_ (bt_below HW.out.stays hB7 hb8)
    have G8 := hQ_ (hG7 HGL.out)
    have N8 : (w7.alloc (.cells #[.slice h'.a h'.n h'.c] 29)).cell? ⟨w7.heap.size,0,none⟩ = some (.slice h'.a h'.n h'.c) := (Blk.new_ w7 _ _).cell 0
    clear hr7 st7 m6 hb8 hB7 hG7
    go_wp2_with ((with_reducible refine pick none ?_); refine store_blk rfl 29 _ _ rfl gm #[.slice h'.a h'.n h'.c] rfl rfl 29 _ M8.out info_fs rfl (by simp [Value.oneCell']) ?_; intro u9 hk9 hg9; have P9 := hQ_ (Pl.next HW.out.stays A8.out M8.out P6.out.ml B8.out hg9 hk9); clear hk9 hg9)
    go_roundw
    case rel => exact ⟨k + 1,_,_,_,_,_,by omega,by go_num,P9,G8⟩
    case measure => simp [intOf]; omega
  ·obtain rfl : k = m := by omega
   have PZ := hQ_ HP.out.B
   obtain ⟨π0,st0'⟩ := PZ.out.st
   have HST := hQ_ st0'
   have HLT := hQ_ (st_letters st0')
   have HLEN := hQ_ PZ.out.len
   go_wp2_with fail
   refine (based_calls HW.out HN.out HP.out.B.rep (HP.out.B.lim (by omega)) HLT.out.1 HST.out.gone HST.out.rise (by have := HLEN.out; omega)).mono ?_
   rintro e wa ⟨vb,Sa,Da,rfl,hra,sta⟩
   have P10 := hQ_ (HP.out.anew HW.out.stays hra sta)
   have BWa : Hid (Below w.heap.size w wa) := hQ_ (below_chg HB2.out P10.out.A.st.chg HS2.out (Nat.le_refl _))
   have HSa : Hid (∀ b,Sa b → w.heap.size ≤ b) := hQ_ (fun b hb => by
    rcases P10.out.A.st.own b hb with q | q
    ·exact HS2.out b q
    ·exact Nat.le_trans HB2.out.size q)
   have XA := hQ_ P10.out.B.mx
   have HAC := hQ_ P10.out.B.ac
   have RV := hQ_ hra
   have HFXa := hQ_ (fun (u : World) (hb : Below w.heap.size w u) => DirsLe.fixed_calls HW.out HN.out u (HMX.out.below hb))
   have hL9 : s.shown.length ≤ 500 := by have := HLEN.out; omega
   have HLM : Hid (Lim ⟨s.shown,[],[],[]⟩) := hQ_ ⟨by show s.shown.length ≤ 1000; omega,Nat.zero_le _,Nat.zero_le _⟩
   have hsh0 : (⟨s.shown,[],[],[]⟩ : Vs).shown = s.shown := rfl
   generalize s.shown = L at *
   have HSH0 := hQ_ hsh0
   have HRG0 := hQ_ (HRN.out ⟨#[]⟩ ⟨#[255]⟩ RV.out HLM.out (by decide) (by decide))
   rw [rangeOf_is,HSH0.out,range_all HLT.out.1] at HRG0
   clear hra sta PZ P10 st0' hsh0 HP HGL HLEN HFX
   go_wp2_with fail
   refine HRG0.out.mono ?_
   rintro e wb ⟨⟨ra,rn,rc⟩,Sb,Db,rfl,hsb,hnb,hrb,stb⟩
   dsimp only at hsb hnb
   have hrn : L.length = rn := hsb.1
   obtain ⟨q1,q2,q3,q4,q5⟩ := ranged_same ⟨L,[],[],[]⟩ ⟨#[]⟩ ⟨#[255]⟩
   have TB : Hid (Th Rep wa Sa Da ra rn L wb vb (Vs.ranged ⟨L,[],[],[]⟩ ⟨#[]⟩ ⟨#[255]⟩) Sb Db 0 0 1) := hQ_ (by
    have a1 := (At.start RV.out).step HW.out.stays hrb stb
    refine ⟨⟨a1.rep,a1.st,fun b hb => ?_⟩,hsb,XA.out.step stb,by rw [q2]; show L.length ≤ 1000; omega,by rw [q3]; exact Nat.le_refl 0,by rw [q4]; exact Nat.le_refl 0,q5⟩
    obtain ⟨h0,o,ho⟩ := hb
    obtain ⟨b',o',e',hlt',_⟩ := hsb.2 0 _ (List.getElem?_eq_getElem (by omega))
    rw [ho] at e'
    injection e' with e'
    injection e' with e' _
    have := hnb b o ho
    exact ⟨this.1,by omega,this.2⟩)
   have SHB : Hid ((Vs.ranged ⟨L,[],[],[]⟩ ⟨#[]⟩ ⟨#[255]⟩).shown = L) := hQ_ (by rw [q1]; rfl)
   generalize Vs.ranged ⟨L,[],[],[]⟩ ⟨#[]⟩ ⟨#[255]⟩ = sb at *
   have HFD := hQ_ (HW.out.find path TB.out.A.rep (TB.out.lim (by omega) (by omega)) (by have := TB.out.rd; omega) (by omega) TB.out.mx.1)
   rw [SHB.out] at HFD
   obtain ⟨⟨⟨fd,fn,fi,⟨fk,fl,fs,fp⟩⟩,fe⟩,hFD⟩ : ∃ x,findM L path = x := ⟨_,rfl⟩
   rw [hFD] at HFD
   have HFM := hQ_ hFD
   dsimp only at HFD
   clear hsb hnb hrb stb hrn q1 q2 q3 q4 q5 hFD HRG0
   go_wp2_with fail
   refine HFD.out.mono ?_
   rintro e wc ⟨sc,Sc,Dc,rfl,hrc,stc,hfc⟩
   have TC := hQ_ (TB.out.step HW.out.stays hrc stc hfc.base (N' := 0) (R' := 40) (G' := 1) (by rw [hfc.wr]; exact TB.out.wr) (by have := hfc.len; have := TB.out.rd; omega) (by rw [hfc.rg]; exact TB.out.rg))
   have SHC : Hid (sc.shown = L) := hQ_ (by
    unfold Vs.shown
    rw [hfc.base,hfc.wr]
    exact SHB.out)
   have hbd := bN_ wc (.cells #[.int .u32 fd,.string fn,.int .u32 fi,.int .u8 fk,.int .u32 fl,.int .u32 fs,.int .u32 fp] 65)
   have TD := hQ_ (TC.out.below HW.out.stays hbd)
   have BWd : Hid (Below w.heap.size w (wc.alloc (.cells #[.int .u32 fd,.string fn,.int .u32 fi,.int .u8 fk,.int .u32 fl,.int .u32 fs,.int .u32 fp] 65))) := hQ_ (below_chg BWa.out TD.out.A.st.chg HSa.out (Nat.le_refl _))
   have c2 : (wc.alloc (.cells #[.int .u32 fd,.string fn,.int .u32 fi,.int .u8 fk,.int .u32 fl,.int .u32 fs,.int .u32 fp] 65)).cell? ⟨wc.heap.size,2,none⟩ = some (.int .u32 fi) := (Blk.new_ wc _ _).cell 2
   clear hrc stc hfc hbd
   by_cases he0 : fe = 0
   rotate_left
   ·have t1 : (fe != 0) = true := by simpa using he0
    go_wp2_with fail
    refine (HFXa.out _ BWd.out).mono ?_
    rintro e w9 ⟨rfl,hb9⟩
    have HB9 := hQ_ hb9
    clear hb9
    go_wp2_with fail
    go_ret
    exact ⟨rfl,Own.keeps BWd.out HB9.out⟩
   subst he0
   by_cases hi0 : fi = 0
   rotate_left
   ·have t1 : (fi != 0) = true := by simpa using hi0
    go_wp2_with fail
    refine (HFXa.out _ BWd.out).mono ?_
    rintro e w9 ⟨rfl,hb9⟩
    have HB9 := hQ_ hb9
    clear hb9
    go_wp2_with fail
    go_ret
    exact ⟨rfl,Own.keeps BWd.out HB9.out⟩
   subst hi0
   obtain ⟨t,hft,ht0⟩ : ∃ t,fndM F path = (t,0) ∧ t.ino = 0 := by
    have := (HST.out.sim.find path).1
    rw [HFM.out] at this
    obtain ⟨⟨t,er⟩,hR⟩ : ∃ x,fndM F path = x := ⟨_,rfl⟩
    rw [hR] at this ⊢
    dsimp only at this
    injection this with h1 h2
    injection h1 with _ _ h3 _
    exact ⟨t,by rw [← h2],h3.symm⟩
   have HFT := hQ_ hft
   have HT0 := hQ_ ht0
   have t1 : ((0 : Int) != 0) = false := by decide
   generalize hwd : wc.alloc (.cells #[.int .u32 fd,.string fn,.int .u32 0,.int .u8 fk,.int .u32 fl,.int .u32 fs,.int .u32 fp] 65) = wd at *
   have HRE := hQ_ (DirsKh.ren_calls HW.out old path TD.out.A.rep (TD.out.lim (by omega) (by omega)) (by have := TD.out.rd; omega) (by have := TD.out.rg; omega) TD.out.mx (by omega) (by omega) (by rw [SHC.out]; exact HLT.out.1) (by rw [SHC.out]; exact HLT.out.2))
   rw [SHC.out] at HRE
   have DRE := hQ_ (ren_did HST.out (by omega) old path)
   have BRE := hQ_ (DirsTb.ren_back HST.out HAC.out (by omega) old path hft ht0)
   obtain ⟨⟨er,ps⟩,hV⟩ : ∃ x,renV L old path = x := ⟨_,rfl⟩
   rw [hV] at HRE DRE BRE
   dsimp only at HRE BRE
   clear hft ht0 hV
   go_wp2_with fail
   refine HRE.out.mono ?_
   rintro e we hAe
   have HAE := hQ_ hAe
   clear t1 c2 hAe HRE
   by_cases her : er = 0
   ·subst her
    obtain ⟨hb1,hb2,hb3,hb4⟩ := BRE.out rfl
    have hro := room_of ps TD.out.wr hb1 (by decide)
    rcases HAE.out.split with ⟨se,Se,De,rfl,hge,hre,ste,hae⟩ | ⟨se,Se,De,rfl,hge,hre,ste,hae⟩
    rotate_left
    ·exact absurd hge (by rw [hro.1]; decide)
    have hok := HW.out.stays.ok TD.out.A.rep
    have hshe : se.shown = outW L ps := by rw [hae.sm.shown,(go_out ps hok hge).1,SHC.out]
    have TE := hQ_ (TD.out.step HW.out.stays hre ste (by rw [hae.sm.base,goW_base]) (N' := 5) (R' := 124) (G' := 2) (by rw [hae.sm.wr]; have := hro.2; omega) (by have := hae.rd; have := TD.out.rd; omega) (by have := hae.rg; have := TD.out.rg; omega))
    obtain ⟨π1,st1⟩ := DRE.out.st
    dsimp only at st1
    have SHE := hQ_ hshe
    have HL1 := hQ_ (st_letters st1)
    have HRE2 := hQ_ (DirsKh.ren_calls HW.out path old TE.out.A.rep (TE.out.lim (by omega) (by omega)) (by have := TE.out.rd; omega) (by have := TE.out.rg; omega) TE.out.mx (by omega) (by omega) (by rw [SHE.out]; exact HL1.out.1) (by rw [SHE.out]; exact HL1.out.2))
    rw [SHE.out] at HRE2
    generalize outW L ps = L1 at *
    obtain ⟨⟨er2,ps2⟩,hV2⟩ : ∃ x,renV L1 path old = x := ⟨_,rfl⟩
    rw [hV2] at HRE2 hb2 hb3 hb4
    dsimp only at HRE2 hb2 hb3 hb4
    subst hb2
    have HB3 := hQ_ hb3
    have HB4x := hQ_ hb4
    clear hb1 hb3 hb4 hro hge hre ste hae hok hshe hV2 st1 HAE BRE DRE
    go_wp2_with fail
    refine HRE2.out.mono ?_
    rintro e wf hAf
    have hro := room_of ps2 TE.out.wr HB3.out (by decide)
    rcases hAf.split with ⟨sf,Sf,Df,rfl,hgf,hrf,stf,haf⟩ | ⟨sf,Sf,Df,rfl,hgf,hrf,stf,haf⟩
    rotate_left
    ·exact absurd hgf (by rw [hro.1]; decide)
    have hok := HW.out.stays.ok TE.out.A.rep
    have SHF : Hid (sf.shown = L) := hQ_ (by rw [haf.sm.shown,(go_out ps2 hok hgf).1,SHE.out,HB4x.out])
    have TF := hQ_ (TE.out.step HW.out.stays hrf stf (by rw [haf.sm.base,goW_base]) (N' := 10) (R' := 208) (G' := 3) (by rw [haf.sm.wr]; have := hro.2; omega) (by have := haf.rd; have := TE.out.rd; omega) (by have := haf.rg; have := TE.out.rg; omega))
    have HRG := hQ_ (HRN.out ⟨#[]⟩ ⟨#[255]⟩ TF.out.A.rep (TF.out.lim (by omega) (by omega)) (by decide) (by decide))
    rw [rangeOf_is,SHF.out,range_all HLT.out.1] at HRG
    clear hAf hro hgf hrf stf haf hok HRE2 TE HL1 SHE
    go_wp2_with fail
    refine HRG.out.mono ?_
    rintro e wg ⟨⟨rb,rm,rd⟩,Sg,Dg,rfl,hsg,_,hrg,stg⟩
    dsimp only at hsg
    obtain ⟨q1,q2,q3,q4,q5⟩ := ranged_same sf ⟨#[]⟩ ⟨#[255]⟩
    have TG := hQ_ (TF.out.step HW.out.stays hrg stg q2 (N' := 10) (R' := 208) (G' := 4) (by rw [q3]; exact TF.out.wr) (by rw [q4]; exact TF.out.rd) (by have := TF.out.rg; omega))
    have SHG : Hid ((sf.ranged ⟨#[]⟩ ⟨#[255]⟩).shown = L) := hQ_ (by rw [q1]; exact SHF.out)
    generalize sf.ranged ⟨#[]⟩ ⟨#[255]⟩ = sg at *
    obtain rfl : rm = rn := by rw [← hsg.1,TF.out.row.1]
    have HAL := hQ_ (alike_calls ra rb rm rc rd L wg TG.out.row hsg (by have := TF.out.row.1; omega))
    clear hsg hrg stg q1 q2 q3 q4 q5 HRG
    go_wp2_with fail
    refine HAL.out.mono ?_
    rintro e wx ⟨rfl,hbx⟩
    have TX := hQ_ (TG.out.below HW.out.stays hbx)
    have SHX := hQ_ SHG.out
    clear hbx
    have HLK := hQ_ (DirsKg.lnk_calls HW.out old path TX.out.A.rep (TX.out.lim (by omega) (by omega)) (by have := TX.out.rd; omega) (by have := TX.out.rg; omega) TX.out.mx (by omega) (by omega))
    rw [SHX.out] at HLK
    have DLK := hQ_ (lnk_did HST.out (by omega) old path)
    have BLK := hQ_ (DirsTb.lnk_back HST.out HAC.out (by omega) old path HFT.out HT0.out)
    obtain ⟨⟨el,pl⟩,hVl⟩ : ∃ x,lnkV L old path = x := ⟨_,rfl⟩
    rw [hVl] at HLK DLK BLK
    dsimp only at HLK BLK
    clear hVl
    go_wp2_with fail
    refine HLK.out.mono ?_
    rintro e wh hAh
    have HAH := hQ_ hAh
    clear hAh HLK
    by_cases hel : el = 0
    ·subst hel
     obtain ⟨hb1,hb2,hb3,hb4⟩ := BLK.out rfl
     have hro := room_of pl TX.out.wr hb1 (by decide)
     rcases HAH.out.split with ⟨sh,Sh,Dh,rfl,hgh,hrh,sth,hah⟩ | ⟨sh,Sh,Dh,rfl,hgh,hrh,sth,hah⟩
     rotate_left
     ·exact absurd hgh (by rw [hro.1]; decide)
     have hok := HW.out.stays.ok TX.out.A.rep
     have hshh : sh.shown = outW L pl := by rw [hah.sm.shown,(go_out pl hok hgh).1,SHX.out]
     have TH := hQ_ (TX.out.step HW.out.stays hrh sth (by rw [hah.sm.base,goW_base]) (N' := 15) (R' := 300) (G' := 5) (by rw [hah.sm.wr]; have := hro.2; omega) (by have := hah.rd; have := TX.out.rd; omega) (by have := hah.rg; have := TX.out.rg; omega))
     obtain ⟨π2,st2⟩ := DLK.out.st
     dsimp only at st2
     have SHH := hQ_ hshh
     have HL2 := hQ_ (st_letters st2)
     have HUL := hQ_ (DirsKf.ulk_calls HW.out path TH.out.A.rep (TH.out.lim (by omega) (by omega)) (by have := TH.out.rd; omega) (by have := TH.out.rg; omega) TH.out.mx (by omega) (by rw [SHH.out]; exact HL2.out.1) (by rw [SHH.out]; exact HL2.out.2))
     rw [SHH.out] at HUL
     generalize outW L pl = L2 at *
     obtain ⟨⟨eu,pu⟩,hVu⟩ : ∃ x,ulkV L2 path = x := ⟨_,rfl⟩
     rw [hVu] at HUL hb2 hb3 hb4
     dsimp only at HUL hb2 hb3 hb4
     subst hb2
     have HB3u := hQ_ hb3
     have HB4u := hQ_ hb4
     clear hb1 hb3 hb4 hro hgh hrh sth hah hok hshh hVu st2 HAH BLK DLK
     go_wp2_with fail
     refine HUL.out.mono ?_
     rintro e wi hAi
     have hro := room_of pu TH.out.wr HB3u.out (by decide)
     rcases hAi.split with ⟨si,Si,Di,rfl,hgi,hri,sti,hai⟩ | ⟨si,Si,Di,rfl,hgi,hri,sti,hai⟩
     rotate_left
     ·exact absurd hgi (by rw [hro.1]; decide)
     have hok := HW.out.stays.ok TH.out.A.rep
     have SHI : Hid (si.shown = L) := hQ_ (by rw [hai.sm.shown,(go_out pu hok hgi).1,SHH.out,HB4u.out])
     have TI := hQ_ (TH.out.step HW.out.stays hri sti (by rw [hai.sm.base,goW_base]) (N' := 20) (R' := 400) (G' := 6) (by rw [hai.sm.wr]; have := hro.2; omega) (by have := hai.rd; have := TH.out.rd; omega) (by have := hai.rg; have := TH.out.rg; omega))
     have HRG := hQ_ (HRN.out ⟨#[]⟩ ⟨#[255]⟩ TI.out.A.rep (TI.out.lim (by omega) (by omega)) (by decide) (by decide))
     rw [rangeOf_is,SHI.out,range_all HLT.out.1] at HRG
     clear hAi hro hgi hri sti hai hok HUL HL2 SHH
     go_wp2_with fail
     refine HRG.out.mono ?_
     rintro e wj ⟨⟨rb2,rm2,rd2⟩,Sj,Dj,rfl,hsj,_,hrj,stj⟩
     dsimp only at hsj
     obtain ⟨q1,q2,q3,q4,q5⟩ := ranged_same si ⟨#[]⟩ ⟨#[255]⟩
     have TJ := hQ_ (TI.out.step HW.out.stays hrj stj q2 (N' := 20) (R' := 400) (G' := 7) (by rw [q3]; exact TI.out.wr) (by rw [q4]; exact TI.out.rd) (by have := TI.out.rg; omega))
     have hrm2 := hsj.1
     have hrm3 := TI.out.row.1
     obtain rfl : rm2 = rm := by omega
     have HAL2 := hQ_ (alike_calls ra rb2 rm2 rc rd2 L wj TJ.out.row hsj (by omega))
     clear hsj hrj stj q1 q2 q3 q4 q5 HRG hrm2 hrm3
     go_wp2_with fail
     refine HAL2.out.mono ?_
     rintro e wk ⟨rfl,hbk⟩
     have TK := hQ_ (TJ.out.below HW.out.stays hbk)
     have BWk : Hid (Below w.heap.size w wk) := hQ_ (below_chg BWa.out TK.out.A.st.chg HSa.out (Nat.le_refl _))
     clear hbk
     go_wp2_with fail
     refine (HFXa.out _ BWk.out).mono ?_
     rintro e w9 ⟨rfl,hb9⟩
     have HB9 := hQ_ hb9
     clear hb9
     go_wp2_with fail
     go_ret
     exact ⟨rfl,Own.keeps BWk.out HB9.out⟩
    ·have htl : (el == 0) = false := by simpa using hel
     have hpl : pl = [] := DLK.out.no hel
     subst hpl
     rcases HAH.out.split with ⟨sh,Sh,Dh,rfl,hgh,hrh,sth,hah⟩ | ⟨sh,Sh,Dh,rfl,hgh,hrh,sth,hah⟩
     rotate_left
     ·exact absurd hgh (by show ¬ (true = false); decide)
     have TH := hQ_ (TX.out.A.step HW.out.stays hrh sth)
     have BWh : Hid (Below w.heap.size w wh) := hQ_ (below_chg BWa.out TH.out.st.chg HSa.out (Nat.le_refl _))
     clear hgh hrh sth hah HAH BLK DLK
     go_wp2_with fail
     refine (HFXa.out _ BWh.out).mono ?_
     rintro e w9 ⟨rfl,hb9⟩
     have HB9 := hQ_ hb9
     clear hb9
     go_wp2_with fail
     go_ret
     exact ⟨rfl,Own.keeps BWh.out HB9.out⟩
   ·have ht : (er == 0) = false := by simpa using her
    have hps : ps = [] := DRE.out.no her
    subst hps
    rcases HAE.out.split with ⟨sx,Sx,Dx,rfl,hge,hre,ste,hae⟩ | ⟨sx,Sx,Dx,rfl,hge,hre,ste,hae⟩
    rotate_left
    ·exact absurd hge (by show ¬ (true = false); decide)
    have hsx : sx.shown = L := by rw [hae.sm.shown]; exact SHC.out
    have TX := hQ_ (TD.out.step HW.out.stays hre ste (by rw [hae.sm.base,goW_base]) (N' := 10) (R' := 208) (G' := 4) (by rw [hae.sm.wr]; have := TD.out.wr; show sc.wr.length ≤ 10; omega) (by have := hae.rd; have := TD.out.rd; omega) (by have := hae.rg; have := TD.out.rg; omega))
    have SHX := hQ_ hsx
    clear hge hre ste hae hsx HAE BRE DRE
    have HLK := hQ_ (DirsKg.lnk_calls HW.out old path TX.out.A.rep (TX.out.lim (by omega) (by omega)) (by have := TX.out.rd; omega) (by have := TX.out.rg; omega) TX.out.mx (by omega) (by omega))
    rw [SHX.out] at HLK
    have DLK := hQ_ (lnk_did HST.out (by omega) old path)
    have BLK := hQ_ (DirsTb.lnk_back HST.out HAC.out (by omega) old path HFT.out HT0.out)
    obtain ⟨⟨el,pl⟩,hVl⟩ : ∃ x,lnkV L old path = x := ⟨_,rfl⟩
    rw [hVl] at HLK DLK BLK
    dsimp only at HLK BLK
    clear hVl
    go_wp2_with fail
    refine HLK.out.mono ?_
    rintro e wh hAh
    have HAH := hQ_ hAh
    clear hAh HLK
    by_cases hel : el = 0
    ·subst hel
     obtain ⟨hb1,hb2,hb3,hb4⟩ := BLK.out rfl
     have hro := room_of pl TX.out.wr hb1 (by decide)
     rcases HAH.out.split with ⟨sh,Sh,Dh,rfl,hgh,hrh,sth,hah⟩ | ⟨sh,Sh,Dh,rfl,hgh,hrh,sth,hah⟩
     rotate_left
     ·exact absurd hgh (by rw [hro.1]; decide)
     have hok := HW.out.stays.ok TX.out.A.rep
     have hshh : sh.shown = outW L pl := by rw [hah.sm.shown,(go_out pl hok hgh).1,SHX.out]
     have TH := hQ_ (TX.out.step HW.out.stays hrh sth (by rw [hah.sm.base,goW_base]) (N' := 15) (R' := 300) (G' := 5) (by rw [hah.sm.wr]; have := hro.2; omega) (by have := hah.rd; have := TX.out.rd; omega) (by have := hah.rg; have := TX.out.rg; omega))
     obtain ⟨π2,st2⟩ := DLK.out.st
     dsimp only at st2
     have SHH := hQ_ hshh
     have HL2 := hQ_ (st_letters st2)
     have HUL := hQ_ (DirsKf.ulk_calls HW.out path TH.out.A.rep (TH.out.lim (by omega) (by omega)) (by have := TH.out.rd; omega) (by have := TH.out.rg; omega) TH.out.mx (by omega) (by rw [SHH.out]; exact HL2.out.1) (by rw [SHH.out]; exact HL2.out.2))
     rw [SHH.out] at HUL
     generalize outW L pl = L2 at *
     obtain ⟨⟨eu,pu⟩,hVu⟩ : ∃ x,ulkV L2 path = x := ⟨_,rfl⟩
     rw [hVu] at HUL hb2 hb3 hb4
     dsimp only at HUL hb2 hb3 hb4
     subst hb2
     have HB3u := hQ_ hb3
     have HB4u := hQ_ hb4
     clear hb1 hb3 hb4 hro hgh hrh sth hah hok hshh hVu st2 HAH BLK DLK
     go_wp2_with fail
     refine HUL.out.mono ?_
     rintro e wi hAi
     have hro := room_of pu TH.out.wr HB3u.out (by decide)
     rcases hAi.split with ⟨si,Si,Di,rfl,hgi,hri,sti,hai⟩ | ⟨si,Si,Di,rfl,hgi,hri,sti,hai⟩
     rotate_left
     ·exact absurd hgi (by rw [hro.1]; decide)
     have hok := HW.out.stays.ok TH.out.A.rep
     have SHI : Hid (si.shown = L) := hQ_ (by rw [hai.sm.shown,(go_out pu hok hgi).1,SHH.out,HB4u.out])
     have TI := hQ_ (TH.out.step HW.out.stays hri sti (by rw [hai.sm.base,goW_base]) (N' := 20) (R' := 400) (G' := 6) (by rw [hai.sm.wr]; have := hro.2; omega) (by have := hai.rd; have := TH.out.rd; omega) (by have := hai.rg; have := TH.out.rg; omega))
     have HRG := hQ_ (HRN.out ⟨#[]⟩ ⟨#[255]⟩ TI.out.A.rep (TI.out.lim (by omega) (by omega)) (by decide) (by decide))
     rw [rangeOf_is,SHI.out,range_all HLT.out.1] at HRG
     clear hAi hro hgi hri sti hai hok HUL HL2 SHH
     go_wp2_with fail
     refine HRG.out.mono ?_
     rintro e wj ⟨⟨rb2,rm2,rd2⟩,Sj,Dj,rfl,hsj,_,hrj,stj⟩
     dsimp only at hsj
     obtain ⟨q1,q2,q3,q4,q5⟩ := ranged_same si ⟨#[]⟩ ⟨#[255]⟩
     have TJ := hQ_ (TI.out.step HW.out.stays hrj stj q2 (N' := 20) (R' := 400) (G' := 7) (by rw [q3]; exact TI.out.wr) (by rw [q4]; exact TI.out.rd) (by have := TI.out.rg; omega))
     have hrm2 := hsj.1
     have hrm3 := TI.out.row.1
     obtain rfl : rm2 = rn := by omega
     have HAL2 := hQ_ (alike_calls ra rb2 rm2 rc rd2 L wj TJ.out.row hsj (by omega))
     clear hsj hrj stj q1 q2 q3 q4 q5 HRG hrm2 hrm3
     go_wp2_with fail
     refine HAL2.out.mono ?_
     rintro e wk ⟨rfl,hbk⟩
     have TK := hQ_ (TJ.out.below HW.out.stays hbk)
     have BWk : Hid (Below w.heap.size w wk) := hQ_ (below_chg BWa.out TK.out.A.st.chg HSa.out (Nat.le_refl _))
     clear hbk
     go_wp2_with fail
     refine (HFXa.out _ BWk.out).mono ?_
     rintro e w9 ⟨rfl,hb9⟩
     have HB9 := hQ_ hb9
     clear hb9
     go_wp2_with fail
     go_ret
     exact ⟨rfl,Own.keeps BWk.out HB9.out⟩
    ·have htl : (el == 0) = false := by simpa using hel
     have hpl : pl = [] := DLK.out.no hel
     subst hpl
     rcases HAH.out.split with ⟨sh,Sh,Dh,rfl,hgh,hrh,sth,hah⟩ | ⟨sh,Sh,Dh,rfl,hgh,hrh,sth,hah⟩
     rotate_left
     ·exact absurd hgh (by show ¬ (true = false); decide)
     have TH := hQ_ (TX.out.A.step HW.out.stays hrh sth)
     have BWh : Hid (Below w.heap.size w wh) := hQ_ (below_chg BWa.out TH.out.st.chg HSa.out (Nat.le_refl _))
     clear hgh hrh sth hah HAH BLK DLK
     go_wp2_with fail
     refine (HFXa.out _ BWh.out).mono ?_
     rintro e w9 ⟨rfl,hb9⟩
     have HB9 := hQ_ hb9
     clear hb9
     go_wp2_with fail
     go_ret
     exact ⟨rfl,Own.keeps BWh.out HB9.out⟩
end Go.Proofs.YtfalhnomhidkcaaGreatDoor.DirsQ
namespace Go.Proofs.YtfalhnomhidkcaaGreatDoor.DirsQx
open Go.RowKit
open Lst KeysM TreeM ViewM ViewKm ViewL WalkV DirsLd DirsQ DirsLx ViewKs ViewKw
open TreeR (prE)
open ViewR (Sh)
theorem range_v : RangeN ViewK.VRep := by
 rintro w v s S D x y ⟨g,b,sh,wt,rd,rg,rfl,hv,h1,h2,rfl,rfl⟩ hl hx hy
 obtain ⟨l1,l2,l3,l4,l5,l6⟩ := ViewK.lens hl h1
 have key : ∀ (G : List (ByteArray × ByteArray)) (L : List Pr),(s.ranged x y).rg = G → s.rangeOf x y = L → Calls Tryz.prog 23 #[.pointer (some ⟨g,0,none⟩),.string x,.string y] w (RangeR g b sh wt rd rg s.base s.shown (kys s.wr) s.rd G L w) → Calls Tryz.prog 23 #[.pointer (some ⟨g,0,none⟩),.string x,.string y] w fun e w' => ∃ (r : Sh) (S' D' : Nat → Prop),e = .returned (.slice r.a r.n r.c) ∧ Sl prE w' r.a r.n (s.rangeOf x y) ∧ (∀ b o,r.a = some ⟨b,o,none⟩ → w.heap.size ≤ b ∧ ¬ D' b) ∧ ViewK.VRep w' (.pointer (some ⟨g,0,none⟩)) (s.ranged x y) S' D' ∧ Stp (fun q => q = g ∨ rg.ownBlock = some q) (fun q => q = g ∨ rg.ownBlock = some q) S' D' w w' := by
  intro G L hG hL hc
  refine hc.mono ?_
  rintro e w' ⟨u,rg',rfl,ho,hv',hd,hto⟩
  have hne := So.ne ho hv'.rgs (by decide)
  obtain ⟨r,rfl,hsl,hnew⟩ := ViewK.sh_of ho
  refine ⟨r,_,_,rfl,by rw [hL]; exact hsl,fun q o e => ⟨hnew q o e,fun hq => ?_⟩,⟨g,b,sh,wt,rd,rg',rfl,?_,ok_ranged h1 x y,?_,rfl,rfl⟩,hd.chg,hd.kept,ViewK.own_new hto,ViewK.own_new hto⟩
  ·have hob : (Value.slice r.a r.n r.c).ownBlock = some q := by rw [e]; rfl
   rcases hq with rfl | hq
   ·have := hnew q o e
    have := hv.lt
    omega
   ·rcases hne with z | z
    ·rw [hob] at z; cases z
    ·exact z (by rw [hob,hq])
  ·rw [hG]
   have e1 : (s.ranged x y).base = s.base ∧ (s.ranged x y).shown = s.shown ∧ (s.ranged x y).wr = s.wr ∧ (s.ranged x y).rd = s.rd := by
    unfold Vs.ranged
    split <;> exact ⟨rfl,rfl,rfl,rfl⟩
   rw [e1.1,e1.2.1,e1.2.2.1,e1.2.2.2]
   exact hv'
  ·have e1 : (s.ranged x y).wr = s.wr := by
    unfold Vs.ranged
    split <;> rfl
   rw [e1]
   exact h2
 cases hk : kl x y with
 | false =>
   refine key s.rg [] ?_ ?_ (range_none x y hv hk)
   ·unfold Vs.ranged
    rw [hk]
    rfl
   ·unfold Vs.rangeOf
    rw [hk]
    rfl
 | true =>
   cases hh : hasR x y s.rg with
   | true =>
     refine key s.rg (rangeL x y s.shown) ?_ ?_ (range_old x y hv l2 (by omega) hk hh)
     ·unfold Vs.ranged addR
      rw [hk,hh]
      rfl
     ·unfold Vs.rangeOf
      rw [hk]
      rfl
   | false =>
     refine key (s.rg ++ [(x,y)]) (rangeL x y s.shown) ?_ ?_ (range_new x y hv l2 (by omega) hk hh)
     ·unfold Vs.ranged addR
      rw [hk,hh]
      rfl
     ·unfold Vs.rangeOf
      rw [hk]
      rfl
theorem range_n : RangeN WalkK.VRep := fun _ _ _ _ _ x y r hl hx hy => (range_v x y r.1 hl hx hy).mono fun _ _ ⟨q,S',D',e,h1,h2,hr,st⟩ => ⟨q,S',D',e,h1,h2,⟨hr,r.2.ranged x y⟩,st⟩
theorem there_all (A : Option Addr) (n c : Nat) (ops : List Op18) (old path : ByteArray) (w : World) (h : n ≤ c ∧ c ≤ maxLen ∧ Sl opE w A n ops ∧ ∀ p ∈ ops,OpB p) (h1 : old.size ≤ maxLen) (h2 : path.size ≤ maxLen) (hmx : NamesL.Mx w) :
 Calls Tryz.prog 6 #[.slice A n c,.string old,.string path] w fun e w' => e = .returned (.bool true) ∧ Below w.heap.size w w' :=
 there_law DirsK.wk newb range_n A n c ops old path w h.2.2.1 h.1 h.2.1 h.2.2.2 (by unfold maxLen at h1; exact h1) (by unfold maxLen at h2; exact h2) hmx
end Go.Proofs.YtfalhnomhidkcaaGreatDoor.DirsQx
namespace Go.Proofs.YtfalhnomhidkcaaGreatDoor.Shap
open Go
theorem returns_shaped {H : Type} {enc : TypeId × Value → H} {a : Assume} {C : Checked} {os : Os} {f : FuncId} {fn : Func} {s : ChangeSpec} {conds : List PathCond} {apart fresh handsOn again : Bool} {X : World → Array Value → Prop}
 (keepX : ∀ (v v' : World) (xs : Array Value),v.heap = v'.heap → X v xs → X v' xs) (own : ownKnob C.prog.godebug = none) (started : os.Started) (noInit : C.prog.inits.idxOf? f = none) (hfn : C.prog.funcs[f]? = some fn)
 (wit : ∃ (v : World) (tape : Tape) (i : Input),v.os = os ∧ (v.forCall tape i).Shaped C.prog ∧ i.vars = [] ∧ Input.okWide C.prog (v.forCall tape i) .any v.heap.size f i ∧ ((s.pre enc C.prog fn conds apart (v.forCall tape i).memory i.args ∧ X (v.forCall tape i).memory i.args) ∧ sizedMet enc C.prog fn (OpenSpec.ofChange s) apart (v.forCall tape i).memory i.args) ∧ a.holds C.prog (lone (Frame.enter C.prog f i.args .normal) [] (v.forCall tape i)))
 (walked : ∀ (W : World) (base : Nat) (xs : Array Value) (ds gs : List (DataW H)) (before : List MemPlace),(∀ (j : Nat) t v,fn.params[j]? = some t → xs[j]? = some v → Value.okWide C.prog W .any base t v) → DataW.Whole enc C.prog fn.params.toList s.vars apart W xs.toList ds gs before → conds.all (PathCond.test C.prog ⟨fn.params.toList,ds,s.plain.varTypes C.prog,gs⟩) = true →
   (DataW.weightsEach C.prog (fn.params.toList ++ s.plain.varTypes C.prog) (ds ++ gs)).all (· ≤ reachBytes) = true → X W xs → W.ShapedOpen C.prog → Calls C.prog f xs W fun e W' => ∃ v,e = .returned v ∧ s.post enc C.prog fn apart fresh handsOn again W xs v W') :
 ReturnsInHanded a C os f .any (fun v xs => (s.pre enc C.prog fn conds apart v xs ∧ X v xs) ∧ sizedMet enc C.prog fn (OpenSpec.ofChange s) apart v xs) (s.post enc C.prog fn apart fresh handsOn again) := by
 refine returnsInHanded_of_calls own started noInit wit ?_
 intro v tape i _ shape _ ok pre _
 obtain ⟨_,_,_,fn',hfn',_,_,_,_,hval⟩ := ok
 obtain rfl : fn' = fn := Option.some.inj (hfn'.symm.trans hfn)
 obtain ⟨⟨⟨ds,gs,before,hw,hc⟩,hx⟩,hz⟩ := pre
 have whole := DataW.Whole.of_heap (w' := v.forCall tape i) (by rfl) hw
 refine (walked (v.forCall tape i) v.heap.size i.args ds gs before hval whole hc (hz.weights hw) (keepX _ _ _ (by rfl) hx) shape).mono fun e W' h => ?_
 obtain ⟨x,rfl,hp⟩ := h
 exact ChangeSpec.post_blind hp
end Go.Proofs.YtfalhnomhidkcaaGreatDoor.Shap