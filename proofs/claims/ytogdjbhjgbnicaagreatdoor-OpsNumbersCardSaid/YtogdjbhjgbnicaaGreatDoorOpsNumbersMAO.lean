import Derived.Test.YtogdjbhjgbnicaaGreatDoorKeysM
import Derived.Test.YtogdjbhjgbnicaaGreatDoorViewM
import Derived.Test.YtogdjbhjgbnicaaGreatDoorNodeM
set_option linter.unusedVariables false
set_option linter.unusedSimpArgs false
namespace Go.Proofs.YtogdjbhjgbnicaaGreatDoor.NamesM
open Byte PackM KeysM
def fields : List Int → List (List Int)
 | [] => [[]]
 | c :: r => if c = 47 then [] :: fields r else match fields r with
   | [] => [[c]]
   | f :: fs => (c :: f) :: fs
theorem fields_back (l : List Int) : (fields l).flatMap (fun f => 47 :: f) = 47 :: l := by
 induction l with
 | nil => rfl
 | cons c r ih =>
   unfold fields
   by_cases h : c = 47
   ·rw [if_pos h,List.flatMap_cons,ih,h]
    rfl
   ·rw [if_neg h]
    cases hf : fields r with
    | nil =>
      rw [hf] at ih
      cases ih
    | cons f fs =>
      rw [hf,List.flatMap_cons] at ih
      injection ih with _ ih
      simp only [List.flatMap_cons,List.cons_append]
      rw [show f ++ List.flatMap (fun f => 47 :: f) fs = r from ih]
theorem fields_mem {l : List Int} {f : List Int} (h : f ∈ fields l) : ∀ x ∈ f,x ∈ l := by
 induction l generalizing f with
 | nil =>
   simp [fields] at h
   subst h
   simp
 | cons c r ih =>
   unfold fields at h
   by_cases h47 : c = 47
   ·rw [if_pos h47] at h
    rcases List.mem_cons.1 h with rfl | h
    ·simp
    ·intro x hx
     exact List.mem_cons_of_mem _ (ih h x hx)
   ·rw [if_neg h47] at h
    cases hf : fields r with
    | nil =>
      rw [hf] at h
      rw [List.mem_singleton] at h
      subst h
      intro x hx
      rw [List.mem_singleton] at hx
      rw [hx]
      simp
    | cons g fs =>
      rw [hf] at h ih
      rcases List.mem_cons.1 h with rfl | h
      ·intro x hx
       rcases List.mem_cons.1 hx with rfl | hx
       ·simp
       ·exact List.mem_cons_of_mem _ (ih (List.mem_cons_self ..) x hx)
      ·intro x hx
       exact List.mem_cons_of_mem _ (ih (List.mem_cons_of_mem _ h) x hx)
def namesOf (s : ByteArray) : List ByteArray := (fields ((txt s).drop 1)).map str
def spl (s : ByteArray) : List ByteArray × Int :=
 if s.size = 0 ∨ 255 < s.size then ([],17) else if (txt s).getD 0 0 ≠ 47 then ([],15) else if s.size = 1 then ([],0)
 else if (namesOf s).all nameOk && decide ((namesOf s).length ≤ 16) then (namesOf s,0) else ([],17)
def slashed (l : List ByteArray) : List Int := l.flatMap (fun s => 47 :: txt s)
theorem name_pos {s : ByteArray} (h : nameOk s = true) : 0 < s.size ∧ s.size ≤ 32 := by
 unfold nameOk at h
 simp only [Bool.and_eq_true,decide_eq_true_eq] at h
 exact ⟨h.1.1.1.1,h.1.1.1.2⟩
theorem slashed_map (l : List ByteArray) : slashed l = (l.map txt).flatMap (fun f => 47 :: f) := by
 unfold slashed
 rw [List.flatMap_map]
theorem txt_names (s : ByteArray) : (namesOf s).map txt = fields ((txt s).drop 1) := by
 unfold namesOf
 rw [List.map_map]
 have : ∀ f ∈ fields ((txt s).drop 1),(txt ∘ str) f = f := fun f hf => txt_str f (fun x hx => txt_bd s x (List.mem_of_mem_drop (fields_mem hf x hx)))
 rw [List.map_congr_left this,List.map_id']
theorem txt_cons {s : ByteArray} (h : 0 < s.size) (h47 : (txt s).getD 0 0 = 47) : txt s = 47 :: (txt s).drop 1 := by
 have hl := txt_len s
 cases ht : txt s with
 | nil => rw [ht] at hl; simp at hl; omega
 | cons c r => rw [ht] at h47; simp at h47; rw [h47]; rfl
theorem spl_no {s : ByteArray} (h : s.size = 0 ∨ 255 < s.size) : spl s = ([],17) := if_pos h
theorem spl_15 {s : ByteArray} (h : ¬ (s.size = 0 ∨ 255 < s.size)) (h47 : (txt s).getD 0 0 ≠ 47) : spl s = ([],15) := by unfold spl; rw [if_neg h,if_pos h47]
theorem slashed_snoc (l : List ByteArray) (x : ByteArray) : slashed (l ++ [x]) = slashed l ++ 47 :: txt x := by
 unfold slashed
 rw [List.flatMap_append]
 simp
def under (a b : List ByteArray) : Bool := decide (a.length < b.length) && decide (b.take a.length = a)
end Go.Proofs.YtogdjbhjgbnicaaGreatDoor.NamesM
namespace Go.Proofs.YtogdjbhjgbnicaaGreatDoor.KeysV
open Byte PackM KeysM
def Up (xs : List Int) (S : ByteArray) : Prop := ∃ k,k < xs.length ∧ xs.getD k 0 < 255 ∧ (∀ j,k < j → j < xs.length → xs.getD j 0 = 255) ∧ txt S = xs.take k ++ [xs.getD k 0 + 1]
theorem le_max : ∀ (r s : List Int),r.length = s.length → (∀ x ∈ r,x ≤ 255) → (∀ x ∈ s,x = 255) → (lt r s || decide (r = s)) = true
 | [],[],_,_,_ => rfl
 | [],_ :: _,h,_,_ => by simp at h
 | _ :: _,[],h,_,_ => by simp at h
 | a :: r,b :: s,h,hr,hs => by
   have ha := hr a (by simp)
   have hb := hs b (by simp)
   have ih := le_max r s (by simpa using h) (fun x hx => hr x (by simp [hx])) (fun x hx => hs x (by simp [hx]))
   rw [lt]
   rcases Int.lt_trichotomy a b with h1 | h1 | h1
   ·simp [h1]
   ·subst h1
    simpa using ih
   ·omega
theorem cut_at (l : List Int) (k : Nat) (h : k < l.length) : l = l.take k ++ (l.getD k 0 :: l.drop (k + 1)) := by
 have h1 : l.getD k 0 = l[k] := by rw [List.getD_eq_getElem?_getD,List.getElem?_eq_getElem h]; rfl
 rw [h1,List.getElem_cons_drop,List.take_append_drop]
theorem lt_nil (l : List Int) : lt l [] = false := by cases l <;> rfl
theorem up_lt {xs : List Int} {S : ByteArray} (hu : Up xs S) (l : List Int) (hl : xs.length ≤ l.length) (hb : ∀ x ∈ l,0 ≤ x ∧ x ≤ 255) : lt l (txt S) = (lt (l.take xs.length) xs || decide (l.take xs.length = xs)) := by
 obtain ⟨k,hk,h1,h2,h3⟩ := hu
 rw [h3]
 obtain ⟨n,hn⟩ : ∃ n,xs.length = n := ⟨_,rfl⟩
 rw [hn]
 have hT : (l.take n).length = n := by rw [List.length_take]; omega
 have c1 := cut_at (l.take n) k (by omega)
 have c2 := cut_at xs k hk
 have c3 := cut_at l k (by omega)
 have e1 : (l.take n).take k = l.take k := by rw [List.take_take,Nat.min_eq_left (by omega)]
 have e2 : (l.take n).getD k 0 = l.getD k 0 := by
  rw [List.getD_eq_getElem?_getD,List.getElem?_take_of_lt (by omega),List.getD_eq_getElem?_getD]
 rw [e1,e2] at c1
 have hm := le_max ((l.take n).drop (k + 1)) (xs.drop (k + 1)) (by rw [List.length_drop,List.length_drop,hT,hn]) (fun x hx => (hb x (List.mem_of_mem_take (List.mem_of_mem_drop hx))).2) (fun x hx => by
  obtain ⟨j,hj,rfl⟩ := List.mem_iff_getElem.1 hx
  rw [List.length_drop] at hj
  have := h2 (k + 1 + j) (by omega) (by omega)
  rw [List.getD_eq_getElem?_getD,List.getElem?_eq_getElem (by omega)] at this
  simpa using this)
 have hlen : (l.take k).length = (xs.take k).length := by rw [List.length_take,List.length_take]; omega
 generalize (l.take n).drop (k + 1) = r at c1 hm
 generalize xs.drop (k + 1) = s at c2 hm
 generalize l.drop (k + 1) = t at c3
 generalize l.take k = p at c1 c3 hlen
 generalize hq : xs.take k = q at c2 hlen ⊢
 generalize l.getD k 0 = y at c1 c3
 generalize xs.getD k 0 = x at c2 h1 ⊢
 have hlt : lt l (q ++ [x + 1]) = (lt p q || (decide (p = q) && decide (y < x + 1))) := by
  rw [c3,lt_append _ _ _ _ hlen,lt,lt_nil]
  simp
 rw [hlt,c1,c2,lt_append _ _ _ _ hlen,lt]
 have hd : decide (p ++ y :: r = q ++ x :: s) = (decide (p = q) && (decide (y = x) && decide (r = s))) := by
  rw [Bool.eq_iff_iff]
  simp only [Bool.and_eq_true,decide_eq_true_eq]
  constructor
  ·intro h
   obtain ⟨h4,h5⟩ := List.append_inj h hlen
   injection h5 with h5 h6
   exact ⟨h4,h5,h6⟩
  ·rintro ⟨rfl,rfl,rfl⟩
   rfl
 rw [hd]
 cases lt p q with
 | true => simp
 | false =>
   by_cases hpq : p = q
   ·simp only [hpq,decide_true,Bool.true_and,Bool.false_or]
    rcases Int.lt_trichotomy y x with h | h | h
    ·simp [h,show y < x + 1 by omega]
    ·subst h
     simp only [show decide (y < y + 1) = true from decide_eq_true (by omega),show decide (y < y) = false by simp,decide_true,Bool.true_and,Bool.false_or]
     exact hm.symm
    ·simp [show ¬ y < x by omega,show ¬ y < x + 1 by omega,show ¬ y = x by omega]
   ·simp [hpq]
theorem up_key {c n : Int} {S : ByteArray} (hu : Up (kq c n) S) (h0 : 0 ≤ n) (h1 : n ≤ 4294967295) {key : ByteArray} (hk : 5 ≤ key.size) :
 lt (txt key) (txt S) = (decide ((txt key).getD 0 0 < c) || (decide ((txt key).getD 0 0 = c) && decide (getn (txt key) 1 4 ≤ n))) := by
 have hg := getn_bd key
 have hf := front hk
 have hl := up_lt hu (txt key) (by rw [kq_len,txt_len]; exact hk) (txt_bd key)
 rw [kq_len,hf] at hl
 rw [hl]
 generalize (txt key).getD 0 0 = a
 generalize getn (txt key) 1 4 = m at hg
 have h2 := lt_kq a c m n [] [] hg.1 hg.2 h0 h1
 rw [List.append_nil,List.append_nil] at h2
 rw [h2]
 have h3 : decide (kq a m = kq c n) = (decide (a = c) && decide (m = n)) := by
  rw [Bool.eq_iff_iff]
  simp only [Bool.and_eq_true,decide_eq_true_eq]
  constructor
  ·intro h
   unfold kq at h
   injection h with h4 h5
   refine ⟨h4,?_⟩
   have e : (256 : Int) ^ 4 = 4294967296 := by decide
   have := congrArg unbe h5
   rw [unbe_low,unbe_low,e,Int.emod_eq_of_lt hg.1 (by omega),Int.emod_eq_of_lt h0 (by omega)] at this
   exact this
  ·rintro ⟨rfl,rfl⟩
   rfl
 rw [h3]
 have h4 : lt ([] : List Int) [] = false := rfl
 rw [h4]
 rw [Bool.eq_iff_iff]
 simp only [Bool.or_eq_true,Bool.and_eq_true,decide_eq_true_eq,Bool.and_false,Bool.false_eq_true,and_false,or_false]
 omega
theorem lt_head (key : ByteArray) (hk : 5 ≤ key.size) (c n : Int) (s : List Int) (h0 : 0 ≤ n) (h1 : n ≤ 4294967295) : lt (txt key) (kq c n ++ s) = (decide ((txt key).getD 0 0 < c) || (decide ((txt key).getD 0 0 = c) && (decide (getn (txt key) 1 4 < n) || (decide (getn (txt key) 1 4 = n) && lt ((txt key).drop 5) s)))) := by
 have hg := getn_bd key
 conv => lhs; rw [txt_split hk]
 exact lt_kq _ _ _ _ _ _ hg.1 hg.2 h0 h1
theorem sp_size {key : ByteArray} (h : (sp key).letter ≠ 0) : 5 ≤ key.size := by
 rcases Nat.lt_or_ge key.size 5 with h1 | h1
 ·rw [sp_short h1] at h
  exact absurd rfl h
 ·exact h1
theorem sp_parts {key : ByteArray} (h : (sp key).letter ≠ 0) : (sp key).letter = (txt key).getD 0 0 ∧ (sp key).ino = getn (txt key) 1 4 ∧ ((sp key).letter = 68 → key.size = 7 ∧ (sp key).n = 256 * (txt key).getD 5 0 + (txt key).getD 6 0) := by
 rcases sp_ways key with h1 | ⟨h1,h2⟩ | ⟨h1,h2,h3⟩ | ⟨h1,h2⟩
 ·rw [h1] at h
  exact absurd rfl h
 ·rw [sp_73 h1 h2]
  exact ⟨h1.symm,rfl,fun e => by cases e⟩
 ·rw [sp_69 h1 h2 h3]
  exact ⟨h1.symm,rfl,fun e => by cases e⟩
 ·rw [sp_68 h1 h2]
  exact ⟨h1.symm,rfl,fun _ => ⟨h2,rfl⟩⟩
def Rng (a b : ByteArray) (P : Sp → Bool) : Prop := ∀ key,(sp key).letter ≠ 0 → (!(lt (txt key) (txt a)) && lt (txt key) (txt b)) = P (sp key)
theorem rng_entries {c n : Int} {a b : ByteArray} (ha : txt a = kq c n) (hb : Up (kq c n) b) (h0 : 0 ≤ n) (h1 : n ≤ 4294967295) : Rng a b fun s => decide (s.letter = c) && decide (s.ino = n) := by
 intro key hkey
 have h5 := sp_size hkey
 obtain ⟨p1,p2,_⟩ := sp_parts hkey
 dsimp only
 rw [up_key hb h0 h1 h5,ha,p1,p2]
 have h2 := lt_head key h5 c n [] h0 h1
 rw [List.append_nil,lt_nil] at h2
 rw [h2]
 rw [Bool.eq_iff_iff]
 simp only [Bool.or_eq_true,Bool.and_eq_true,decide_eq_true_eq,Bool.and_false,Bool.or_false,Bool.false_eq_true,and_false,or_false,Bool.not_eq_true',Bool.or_eq_false_iff,Bool.and_eq_false_iff,decide_eq_false_iff_not]
 omega
theorem rng_blocks {n m : Int} {a b : ByteArray} (ha : txt a = kq 68 n ++ [max m 0 / 256,max m 0 % 256]) (hb : Up (kq 68 n) b) (h0 : 0 ≤ n) (h1 : n ≤ 4294967295) (hm : m ≤ 65535) : Rng a b fun s => decide (s.letter = 68) && decide (s.ino = n) && decide (m ≤ s.n) := by
 intro key hkey
 have h5 := sp_size hkey
 obtain ⟨p1,p2,p3⟩ := sp_parts hkey
 have h2 := lt_head key h5 68 n [max m 0 / 256,max m 0 % 256] h0 h1
 dsimp only
 rw [up_key hb h0 h1 h5,ha,h2]
 by_cases hc : (sp key).letter = 68
 ·obtain ⟨hz,hn⟩ := p3 hc
  have hl : ((txt key).drop 5).length = 2 := by rw [List.length_drop,txt_len]; omega
  have hbd : ∀ x ∈ (txt key).drop 5,0 ≤ x ∧ x ≤ 255 := fun x hx => txt_bd key x (List.mem_of_mem_drop hx)
  have h3 := lt_num ((txt key).drop 5) [max m 0 / 256,max m 0 % 256] hl hbd (by simp; omega)
  have g5 : (txt key).getD 5 0 = ((txt key).drop 5).getD 0 0 := by simp [List.getD_eq_getElem?_getD]
  have g6 : (txt key).getD 6 0 = ((txt key).drop 5).getD 1 0 := by simp [List.getD_eq_getElem?_getD]
  rw [g5,g6] at hn
  rw [h3]
  generalize (txt key).drop 5 = r at hl hn hbd
  match r,hl with
  | [p,q],_ =>
    have hp := hbd p (by simp)
    have hq := hbd q (by simp)
    have e1 : unbe [p,q] = 256 * p + q := by simp [unbe]; omega
    have e2 : unbe [max m 0 / 256,max m 0 % 256] = max m 0 := by simp [unbe]; omega
    have e3 : (sp key).n = 256 * p + q := hn
    rw [e1,e2,p1,p2,e3]
    rw [p1] at hc
    rw [Bool.eq_iff_iff]
    simp only [Bool.or_eq_true,Bool.and_eq_true,decide_eq_true_eq,Bool.not_eq_true',Bool.or_eq_false_iff,Bool.and_eq_false_iff,decide_eq_false_iff_not]
    omega
 ·rw [p1] at hc
  rw [p1]
  have d : decide ((txt key).getD 0 0 = 68) = false := by simpa using hc
  rw [d]
  simp
theorem rng_none {n m : Int} {b : ByteArray} (hm : 65535 < m) : Rng b b fun s => decide (s.letter = 68) && decide (s.ino = n) && decide (m ≤ s.n) := by
 intro key hkey
 obtain ⟨_,_,p3⟩ := sp_parts hkey
 dsimp only
 have : (decide ((sp key).letter = 68) && decide ((sp key).ino = n) && decide (m ≤ (sp key).n)) = false := by
  by_cases hc : (sp key).letter = 68
  ·obtain ⟨hz,hn⟩ := p3 hc
   have := back_D (key := key) (by have := (sp_parts hkey).1; omega) hz
   have h2 : ¬ m ≤ (sp key).n := by omega
   simp [h2]
  ·simp [hc]
 rw [this]
 simp
end Go.Proofs.YtogdjbhjgbnicaaGreatDoor.KeysV
namespace Go.Proofs.YtogdjbhjgbnicaaGreatDoor.WalkM
open Byte PackM KeysM TreeM ViewM NodeM
def hangV (ino : Int) : ByteArray := str (low 4 ino)
theorem hangV_size (ino : Int) : (hangV ino).size = 4 := by unfold hangV; rw [str_size,low_len]
theorem hangV_get {ino : Int} (h0 : 0 ≤ ino) (h1 : ino ≤ 4294967295) : PackM.getn (txt (hangV ino)) 0 4 = ino := by
 unfold hangV
 rw [txt_str _ (low_bd 4 ino)]
 have := getn_mid [] [] ino 0 rfl h0 h1
 simpa using this
def childM (l : List Pr) (dir : Int) (name : ByteArray) : Int × Bool := match getL (kE dir name) l with
 | none => (0,false)
 | some q => if q.value.size = 4 then (PackM.getn (txt q.value) 0 4,true) else (0,false)
def entB (dir : Int) (p : Pr) : Bool := decide ((sp p.key).letter = 69) && decide ((sp p.key).ino = dir)
def listM (dir : Int) (l : List Pr) : List ByteArray := (l.filter (entB dir)).map (fun p => (sp p.key).name)
def goodN (name : ByteArray) : Prop := 0 < name.size ∧ name.size ≤ 32
end Go.Proofs.YtogdjbhjgbnicaaGreatDoor.WalkM
namespace Go.Proofs.YtogdjbhjgbnicaaGreatDoor.WalkF
open Byte PackM KeysM TreeM ViewM NodeM NamesM WalkM
structure Ino where
 k : Int
 l : Int
 s : Int
 p : Int
def ino0 : Ino := ⟨0,0,0,0⟩
structure Spot where
 dir : Int
 name : ByteArray
 ino : Int
 node : Ino
def spot0 : Spot := ⟨0,⟨#[]⟩,0,ino0⟩
def loadM (l : List Pr) (ino : Int) : Ino × Bool := match getL (kI ino) l with
 | none => if ino = 1 then (⟨2,2,0,1⟩,true) else (ino0,false)
 | some q => if gok q.value then (⟨gk q.value,gl q.value,gs q.value,gp q.value⟩,true) else (ino0,false)
def stepM (L : List Pr) (at_ : Spot) (name : ByteArray) : Spot :=
 if (childM L at_.ino name).2 && (loadM L (childM L at_.ino name).1).2 then ⟨at_.ino,name,(childM L at_.ino name).1,(loadM L (childM L at_.ino name).1).1⟩ else ⟨at_.ino,name,0,ino0⟩
def findL (L : List Pr) (at_ : Spot) : List ByteArray → Spot × Int
 | [] => (at_,0)
 | name :: r => if at_.ino = 0 then (spot0,10) else if at_.node.k ≠ 2 then (spot0,12) else findL L (stepM L at_ name) r
def findM (L : List Pr) (path : ByteArray) : Spot × Int := if (spl path).2 ≠ 0 then (spot0,(spl path).2) else findL L ⟨0,⟨#[]⟩,1,(loadM L 1).1⟩ (spl path).1
def hasK (k : ByteArray) (rd : List Pr) : Prop := ∃ p ∈ rd,p.key = k
theorem hasK_put (k : ByteArray) (v : ByteArray) (g : Bool) (rd : List Pr) : hasK k (putP ⟨k,v,g⟩ rd) := ⟨_,putP_new _ _,rfl⟩
theorem hasK_keep {k q : ByteArray} {rd : List Pr} (h : hasK k rd) (v : ByteArray) (g : Bool) : hasK k (putP ⟨q,v,g⟩ rd) := by
 by_cases e : k = q
 ·subst e
  exact hasK_put _ _ _ _
 ·obtain ⟨p,hp,rfl⟩ := h
  exact ⟨p,putP_mem hp e,rfl⟩
structure FindR (s : Vs) (path : ByteArray) (s' : Vs) : Prop where
 base : s'.base = s.base
 wr : s'.wr = s.wr
 rg : s'.rg = s.rg
 none_ : (spl path).2 ≠ 0 → s'.rd = s.rd
 keep : ∀ k,hasK k s.rd → hasK k s'.rd
 root : (spl path).2 = 0 → hasK (kI 1) s'.rd
 ent : (spl path).2 = 0 → (findM s.shown path).2 = 0 → (findM s.shown path).1.name ≠ ⟨#[]⟩ → hasK (kE (findM s.shown path).1.dir (findM s.shown path).1.name) s'.rd
 ino : (spl path).2 = 0 → (findM s.shown path).2 = 0 → (findM s.shown path).1.ino ≠ 0 → hasK (kI (findM s.shown path).1.ino) s'.rd
 dir : (spl path).2 = 0 → (findM s.shown path).2 = 0 → (findM s.shown path).1.dir ≠ 0 → hasK (kI (findM s.shown path).1.dir) s'.rd
 len : s'.rd.length ≤ s.rd.length + 40
 small : ∀ p ∈ s'.rd,p ∈ s.rd ∨ p.key.size ≤ 100000
theorem spl_names (s : ByteArray) : ∀ x ∈ (spl s).1,x.size ≤ 32 := by
 unfold spl
 split
 ·exact fun x hx => by cases hx
 ·split
  ·exact fun x hx => by cases hx
  ·split
   ·exact fun x hx => by cases hx
   ·split
    ·rename_i h
     rw [Bool.and_eq_true,decide_eq_true_eq] at h
     exact fun x hx => (name_pos (List.all_eq_true.1 h.1 x hx)).2
    ·exact fun x hx => by cases hx
structure SpotB (x : Spot) : Prop where
 d0 : 0 ≤ x.dir
 d1 : x.dir ≤ 4294967295
 i0 : 0 ≤ x.ino
 i1 : x.ino ≤ 4294967295
 nm : x.name.size ≤ 32
theorem spotB0 : SpotB spot0 := ⟨by decide,by decide,by decide,by decide,by decide⟩
theorem child_bd (L : List Pr) (dir : Int) (name : ByteArray) : 0 ≤ (childM L dir name).1 ∧ (childM L dir name).1 ≤ 4294967295 := by
 unfold childM
 split
 ·exact ⟨Int.le_refl 0,by decide⟩
 ·rename_i q _
  split
  ·have := get_bd (txt q.value) 0 4 (txt_bd q.value)
   have e : (256 : Int) ^ 4 = 4294967296 := by decide
   exact ⟨this.1,by show PackM.getn (txt q.value) 0 4 ≤ _; omega⟩
  ·exact ⟨Int.le_refl 0,by decide⟩
theorem step_bd {L : List Pr} {x : Spot} (h : SpotB x) {name : ByteArray} (hn : name.size ≤ 32) : SpotB (stepM L x name) := by
 unfold stepM
 split
 ·exact ⟨h.i0,h.i1,(child_bd _ _ _).1,(child_bd _ _ _).2,hn⟩
 ·exact ⟨h.i0,h.i1,(show (0 : Int) ≤ 0 by decide),(show (0 : Int) ≤ 4294967295 by decide),hn⟩
theorem findL_bd (L : List Pr) : ∀ (names : List ByteArray) (x : Spot),SpotB x → (∀ y ∈ names,y.size ≤ 32) → SpotB (findL L x names).1 ∧ ((findL L x names).2 = 0 ∨ (findL L x names).2 = 10 ∨ (findL L x names).2 = 12)
 | [],x,h,_ => ⟨h,.inl rfl⟩
 | name :: r,x,h,hn => by
   unfold findL
   split
   ·exact ⟨spotB0,.inr (.inl rfl)⟩
   ·split
    ·exact ⟨spotB0,.inr (.inr rfl)⟩
    ·exact findL_bd L r _ (step_bd h (hn name (by simp))) (fun y hy => hn y (by simp [hy]))
theorem find_bd (L : List Pr) (path : ByteArray) : SpotB (findM L path).1 := by
 unfold findM
 split
 ·exact spotB0
 ·exact (findL_bd L _ _ ⟨(show (0 : Int) ≤ 0 by decide),by show (0 : Int) ≤ 4294967295; decide,by show (0 : Int) ≤ 1; decide,by show (1 : Int) ≤ 4294967295; decide,by show (0 : Nat) ≤ 32; decide⟩ (spl_names path)).1
end Go.Proofs.YtogdjbhjgbnicaaGreatDoor.WalkF
namespace Go.Proofs.YtogdjbhjgbnicaaGreatDoor.ViewKm
open Byte KeysM TreeM ViewM
theorem mem_cut {l : List Pr} {k : ByteArray} {q : Pr} : q ∈ cutL k l ↔ q ∈ l ∧ q.key ≠ k := by
 unfold cutL
 rw [List.mem_filter]
 simp
theorem mem_put' {l : List Pr} {k v : ByteArray} {q : Pr} : q ∈ putL k v l ↔ q = ⟨k,v,false⟩ ∨ (q ∈ l ∧ q.key ≠ k) :=
 ⟨mem_put,fun h => by
   rcases h with rfl | ⟨h1,h2⟩
   ·exact put_new _ _ _
   ·exact put_mem h1 h2⟩
theorem mem_putP' {l : List Pr} {p q : Pr} : q ∈ putP p l ↔ q = p ∨ (q ∈ l ∧ q.key ≠ p.key) :=
 ⟨mem_putP,fun h => by
   rcases h with rfl | ⟨h1,h2⟩
   ·exact putP_new _ _
   ·exact putP_mem h1 h2⟩
theorem mem_done {l : List Pr} {w q : Pr} : q ∈ doneW l w ↔ (w.gone = false ∧ q = ⟨w.key,w.value,false⟩) ∨ (q ∈ l ∧ q.key ≠ w.key) := by
 unfold doneW
 cases h : w.gone with
 | true => simp [mem_cut]
 | false => simp [mem_put']
theorem mem_shown {W : List Pr} : ∀ {B : List Pr} (hW : Rise W) {q : Pr},q ∈ shownL B W ↔ (∃ w ∈ W,w.gone = false ∧ q = ⟨w.key,w.value,false⟩) ∨ (q ∈ B ∧ ∀ w ∈ W,q.key ≠ w.key) := by
 induction W with
 | nil => intro B hW q; simp [shownL]
 | cons w W ih =>
   intro B hW q
   have hW' := hW
   unfold Rise at hW'
   rw [List.pairwise_cons] at hW'
   have e : shownL B (w :: W) = shownL (doneW B w) W := rfl
   rw [e,ih (B := doneW B w) hW'.2,mem_done]
   constructor
   ·rintro (⟨x,hx,h1,h2⟩ | ⟨⟨h1,h2⟩ | ⟨h1,h2⟩,h3⟩)
    ·exact .inl ⟨x,List.mem_cons_of_mem _ hx,h1,h2⟩
    ·exact .inl ⟨w,List.mem_cons_self,h1,h2⟩
    ·exact .inr ⟨h1,fun x hx => by
      rcases List.mem_cons.1 hx with rfl | hx
      ·exact h2
      ·exact h3 x hx⟩
   ·rintro (⟨x,hx,h1,h2⟩ | ⟨h1,h2⟩)
    ·rcases List.mem_cons.1 hx with rfl | hx
     ·refine .inr ⟨.inl ⟨h1,h2⟩,fun y hy => ?_⟩
      subst h2
      exact kl_ne (hW'.1 y hy)
     ·exact .inl ⟨x,hx,h1,h2⟩
    ·exact .inr ⟨.inr ⟨h1,h2 w List.mem_cons_self⟩,fun y hy => h2 y (List.mem_cons_of_mem _ hy)⟩
theorem get_none {l : List Pr} {k : ByteArray} (h : getL k l = none) : ∀ q ∈ l,q.key ≠ k := fun q hq e => by
 unfold getL at h
 have := List.find?_eq_none.1 h q hq
 simp [e] at this
theorem get_none' {l : List Pr} {k : ByteArray} (h : ∀ q ∈ l,q.key ≠ k) : getL k l = none := by
 unfold getL
 rw [List.find?_eq_none]
 intro q hq
 simp [h q hq]
theorem get_mem {l : List Pr} (hr : Rise l) {p : Pr} (h : p ∈ l) : getL p.key l = some p := by
 obtain ⟨i,hi,rfl⟩ := List.mem_iff_getElem.1 h
 exact TreeM.get_at hr (List.getElem?_eq_getElem hi)
theorem shown_write {B W : List Pr} (hB : Rise B) (hW : Rise W) (p : Pr) : shownL B (writeW B W p) = doneW (shownL B W) p := by
 have hS := rise_shown hB W
 refine rise_ext (rise_shown hB _) (rise_done hS p) fun q => ?_
 rw [mem_shown (rise_write hW p),mem_done,mem_shown hW]
 unfold writeW
 cases hc : (p.gone && (getL p.key B).isNone) with
 | true =>
   rw [if_pos rfl]
   rw [Bool.and_eq_true] at hc
   obtain ⟨hg,hn⟩ := hc
   have hB' := get_none (Option.isNone_iff_eq_none.1 hn)
   simp only [mem_cut,hg]
   constructor
   ·rintro (⟨x,⟨hx,h3⟩,h1,rfl⟩ | ⟨h1,h2⟩)
    ·exact .inr ⟨.inl ⟨x,hx,h1,rfl⟩,h3⟩
    ·refine .inr ⟨.inr ⟨h1,fun x hx => ?_⟩,hB' q h1⟩
     by_cases hk : x.key = p.key
     ·rw [hk]
      exact hB' q h1
     ·exact h2 x ⟨hx,hk⟩
   ·rintro (⟨h1,_⟩ | ⟨⟨x,hx,h1,rfl⟩ | ⟨h1,h2⟩,h3⟩)
    ·cases h1
    ·exact .inl ⟨x,⟨hx,h3⟩,h1,rfl⟩
    ·exact .inr ⟨h1,fun x hx => h2 x hx.1⟩
 | false =>
   rw [if_neg (by decide)]
   simp only [mem_putP']
   constructor
   ·rintro (⟨x,rfl | ⟨hx,h3⟩,h1,rfl⟩ | ⟨h1,h2⟩)
    ·exact .inl ⟨h1,rfl⟩
    ·exact .inr ⟨.inl ⟨x,hx,h1,rfl⟩,h3⟩
    ·refine .inr ⟨.inr ⟨h1,fun x hx => ?_⟩,h2 p (.inl rfl)⟩
     by_cases hk : x.key = p.key
     ·rw [hk]
      exact h2 p (.inl rfl)
     ·exact h2 x (.inr ⟨hx,hk⟩)
   ·rintro (⟨h1,rfl⟩ | ⟨⟨x,hx,h1,rfl⟩ | ⟨h1,h2⟩,h3⟩)
    ·exact .inl ⟨p,.inl rfl,h1,rfl⟩
    ·exact .inl ⟨x,.inr ⟨hx,h3⟩,h1,rfl⟩
    ·refine .inr ⟨h1,fun x hx => ?_⟩
     rcases hx with rfl | hx
     ·exact h3
     ·exact h2 x hx.1
def kp (p : Pr) : Pr := ⟨p.key,⟨#[]⟩,false⟩
def kys (W : List Pr) : List Pr := W.map kp
theorem kys_len (W : List Pr) : (kys W).length = W.length := by simp [kys]
theorem kys_put (p : Pr) (W : List Pr) : kys (putP p W) = putL p.key ⟨#[]⟩ (kys W) := by
 unfold kys putP putL
 simp only [List.map_append,List.map_cons,List.filter_map]
 rfl
theorem kys_cut (k : ByteArray) (W : List Pr) : kys (cutL k W) = cutL k (kys W) := by
 unfold kys cutL
 simp only [List.filter_map]
 rfl
theorem kys_in (k : ByteArray) (W : List Pr) : (getL k (kys W)).isSome = inW k W := by
 unfold inW getL kys
 rw [List.find?_map]
 cases h : List.find? ((fun p => decide (p.key = k)) ∘ kp) W with
 | none =>
   have : List.find? (fun p => decide (p.key = k)) W = none := h
   rw [this]; rfl
 | some q =>
   have : List.find? (fun p => decide (p.key = k)) W = some q := h
   rw [this]; rfl
def Bare (W : List Pr) : Prop := ∀ p ∈ W,p.gone = true → p.value = ⟨#[]⟩
theorem Bare.nil : Bare [] := fun p hp => by cases hp
theorem Bare.write {B W : List Pr} (h : Bare W) {p : Pr} (hp : p.gone = true → p.value = ⟨#[]⟩) : Bare (writeW B W p) := fun q hq hg => by
 unfold writeW at hq
 split at hq
 ·exact h q (mem_cut.1 hq).1 hg
 ·rcases mem_putP hq with rfl | ⟨h1,_⟩
  ·exact hp hg
  ·exact h q h1 hg
theorem put_is (k v : ByteArray) (B W : List Pr) : writeW B W ⟨k,v,false⟩ = putP ⟨k,v,false⟩ W := by
 unfold writeW
 rfl
theorem cut_is (k v : ByteArray) (B W : List Pr) : writeW B W ⟨k,v,true⟩ = if (getL k B).isSome then putP ⟨k,v,true⟩ W else cutL k W := by
 unfold writeW
 cases h : getL k B <;> simp
end Go.Proofs.YtogdjbhjgbnicaaGreatDoor.ViewKm