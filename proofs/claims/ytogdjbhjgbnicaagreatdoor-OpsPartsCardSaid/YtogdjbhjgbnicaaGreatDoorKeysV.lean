import Derived.Test.YtogdjbhjgbnicaaGreatDoorKeysM
set_option linter.unusedVariables false
set_option linter.unusedSimpArgs false
namespace Go.Proofs.YtogdjbhjgbnicaaGreatDoor.KeysV
open Byte PackM KeysM
def Up (xs : List Int) (S : ByteArray) : Prop := ∃ k,k < xs.length ∧ xs.getD k 0 < 255 ∧ (∀ j,k < j → j < xs.length → xs.getD j 0 = 255) ∧ txt S = xs.take k ++ [xs.getD k 0 + 1]
theorem le_max : ∀ (r s : List Int),r.length = s.length → (∀ x ∈ r,x ≤ 255) → (∀ x ∈ s,x = 255) → (lt r s || decide (r = s)) = true
 | [],[],_,_,_ => rfl
 | [],_ :: _,h,_,_ => by simp at h
 | _ :: _,[],h,_,_ => by simp at h
 | a :: r,b :: s,h,hr,hs => by
   have ha := hr a (by simp)
   have hb := hs b (by simp)
   have ih := le_max r s (by simpa using h) (fun x hx => hr x (by simp [hx])) (fun x hx => hs x (by simp [hx]))
   rw [lt]
   rcases Int.lt_trichotomy a b with h1 | h1 | h1
   ·simp [h1]
   ·subst h1
    simpa using ih
   ·omega
theorem cut_at (l : List Int) (k : Nat) (h : k < l.length) : l = l.take k ++ (l.getD k 0 :: l.drop (k + 1)) := by
 have h1 : l.getD k 0 = l[k] := by rw [List.getD_eq_getElem?_getD,List.getElem?_eq_getElem h]; rfl
 rw [h1,List.getElem_cons_drop,List.take_append_drop]
theorem lt_nil (l : List Int) : lt l [] = false := by cases l <;> rfl
theorem up_lt {xs : List Int} {S : ByteArray} (hu : Up xs S) (l : List Int) (hl : xs.length ≤ l.length) (hb : ∀ x ∈ l,0 ≤ x ∧ x ≤ 255) : lt l (txt S) = (lt (l.take xs.length) xs || decide (l.take xs.length = xs)) := by
 obtain ⟨k,hk,h1,h2,h3⟩ := hu
 rw [h3]
 obtain ⟨n,hn⟩ : ∃ n,xs.length = n := ⟨_,rfl⟩
 rw [hn]
 have hT : (l.take n).length = n := by rw [List.length_take]; omega
 have c1 := cut_at (l.take n) k (by omega)
 have c2 := cut_at xs k hk
 have c3 := cut_at l k (by omega)
 have e1 : (l.take n).take k = l.take k := by rw [List.take_take,Nat.min_eq_left (by omega)]
 have e2 : (l.take n).getD k 0 = l.getD k 0 := by
  rw [List.getD_eq_getElem?_getD,List.getElem?_take_of_lt (by omega),List.getD_eq_getElem?_getD]
 rw [e1,e2] at c1
 have hm := le_max ((l.take n).drop (k + 1)) (xs.drop (k + 1)) (by rw [List.length_drop,List.length_drop,hT,hn]) (fun x hx => (hb x (List.mem_of_mem_take (List.mem_of_mem_drop hx))).2) (fun x hx => by
  obtain ⟨j,hj,rfl⟩ := List.mem_iff_getElem.1 hx
  rw [List.length_drop] at hj
  have := h2 (k + 1 + j) (by omega) (by omega)
  rw [List.getD_eq_getElem?_getD,List.getElem?_eq_getElem (by omega)] at this
  simpa using this)
 have hlen : (l.take k).length = (xs.take k).length := by rw [List.length_take,List.length_take]; omega
 generalize (l.take n).drop (k + 1) = r at c1 hm
 generalize xs.drop (k + 1) = s at c2 hm
 generalize l.drop (k + 1) = t at c3
 generalize l.take k = p at c1 c3 hlen
 generalize hq : xs.take k = q at c2 hlen ⊢
 generalize l.getD k 0 = y at c1 c3
 generalize xs.getD k 0 = x at c2 h1 ⊢
 have hlt : lt l (q ++ [x + 1]) = (lt p q || (decide (p = q) && decide (y < x + 1))) := by
  rw [c3,lt_append _ _ _ _ hlen,lt,lt_nil]
  simp
 rw [hlt,c1,c2,lt_append _ _ _ _ hlen,lt]
 have hd : decide (p ++ y :: r = q ++ x :: s) = (decide (p = q) && (decide (y = x) && decide (r = s))) := by
  rw [Bool.eq_iff_iff]
  simp only [Bool.and_eq_true,decide_eq_true_eq]
  constructor
  ·intro h
   obtain ⟨h4,h5⟩ := List.append_inj h hlen
   injection h5 with h5 h6
   exact ⟨h4,h5,h6⟩
  ·rintro ⟨rfl,rfl,rfl⟩
   rfl
 rw [hd]
 cases lt p q with
 | true => simp
 | false =>
   by_cases hpq : p = q
   ·simp only [hpq,decide_true,Bool.true_and,Bool.false_or]
    rcases Int.lt_trichotomy y x with h | h | h
    ·simp [h,show y < x + 1 by omega]
    ·subst h
     simp only [show decide (y < y + 1) = true from decide_eq_true (by omega),show decide (y < y) = false by simp,decide_true,Bool.true_and,Bool.false_or]
     exact hm.symm
    ·simp [show ¬ y < x by omega,show ¬ y < x + 1 by omega,show ¬ y = x by omega]
   ·simp [hpq]
theorem up_key {c n : Int} {S : ByteArray} (hu : Up (kq c n) S) (h0 : 0 ≤ n) (h1 : n ≤ 4294967295) {key : ByteArray} (hk : 5 ≤ key.size) :
 lt (txt key) (txt S) = (decide ((txt key).getD 0 0 < c) || (decide ((txt key).getD 0 0 = c) && decide (getn (txt key) 1 4 ≤ n))) := by
 have hg := getn_bd key
 have hf := front hk
 have hl := up_lt hu (txt key) (by rw [kq_len,txt_len]; exact hk) (txt_bd key)
 rw [kq_len,hf] at hl
 rw [hl]
 generalize (txt key).getD 0 0 = a
 generalize getn (txt key) 1 4 = m at hg
 have h2 := lt_kq a c m n [] [] hg.1 hg.2 h0 h1
 rw [List.append_nil,List.append_nil] at h2
 rw [h2]
 have h3 : decide (kq a m = kq c n) = (decide (a = c) && decide (m = n)) := by
  rw [Bool.eq_iff_iff]
  simp only [Bool.and_eq_true,decide_eq_true_eq]
  constructor
  ·intro h
   unfold kq at h
   injection h with h4 h5
   refine ⟨h4,?_⟩
   have e : (256 : Int) ^ 4 = 4294967296 := by decide
   have := congrArg unbe h5
   rw [unbe_low,unbe_low,e,Int.emod_eq_of_lt hg.1 (by omega),Int.emod_eq_of_lt h0 (by omega)] at this
   exact this
  ·rintro ⟨rfl,rfl⟩
   rfl
 rw [h3]
 have h4 : lt ([] : List Int) [] = false := rfl
 rw [h4]
 rw [Bool.eq_iff_iff]
 simp only [Bool.or_eq_true,Bool.and_eq_true,decide_eq_true_eq,Bool.and_false,Bool.false_eq_true,and_false,or_false]
 omega
theorem lt_head (key : ByteArray) (hk : 5 ≤ key.size) (c n : Int) (s : List Int) (h0 : 0 ≤ n) (h1 : n ≤ 4294967295) : lt (txt key) (kq c n ++ s) = (decide ((txt key).getD 0 0 < c) || (decide ((txt key).getD 0 0 = c) && (decide (getn (txt key) 1 4 < n) || (decide (getn (txt key) 1 4 = n) && lt ((txt key).drop 5) s)))) := by
 have hg := getn_bd key
 conv => lhs; rw [txt_split hk]
 exact lt_kq _ _ _ _ _ _ hg.1 hg.2 h0 h1
theorem sp_size {key : ByteArray} (h : (sp key).letter ≠ 0) : 5 ≤ key.size := by
 rcases Nat.lt_or_ge key.size 5 with h1 | h1
 ·rw [sp_short h1] at h
  exact absurd rfl h
 ·exact h1
theorem sp_parts {key : ByteArray} (h : (sp key).letter ≠ 0) : (sp key).letter = (txt key).getD 0 0 ∧ (sp key).ino = getn (txt key) 1 4 ∧ ((sp key).letter = 68 → key.size = 7 ∧ (sp key).n = 256 * (txt key).getD 5 0 + (txt key).getD 6 0) := by
 rcases sp_ways key with h1 | ⟨h1,h2⟩ | ⟨h1,h2,h3⟩ | ⟨h1,h2⟩
 ·rw [h1] at h
  exact absurd rfl h
 ·rw [sp_73 h1 h2]
  exact ⟨h1.symm,rfl,fun e => by cases e⟩
 ·rw [sp_69 h1 h2 h3]
  exact ⟨h1.symm,rfl,fun e => by cases e⟩
 ·rw [sp_68 h1 h2]
  exact ⟨h1.symm,rfl,fun _ => ⟨h2,rfl⟩⟩
def Rng (a b : ByteArray) (P : Sp → Bool) : Prop := ∀ key,(sp key).letter ≠ 0 → (!(lt (txt key) (txt a)) && lt (txt key) (txt b)) = P (sp key)
theorem rng_entries {c n : Int} {a b : ByteArray} (ha : txt a = kq c n) (hb : Up (kq c n) b) (h0 : 0 ≤ n) (h1 : n ≤ 4294967295) : Rng a b fun s => decide (s.letter = c) && decide (s.ino = n) := by
 intro key hkey
 have h5 := sp_size hkey
 obtain ⟨p1,p2,_⟩ := sp_parts hkey
 dsimp only
 rw [up_key hb h0 h1 h5,ha,p1,p2]
 have h2 := lt_head key h5 c n [] h0 h1
 rw [List.append_nil,lt_nil] at h2
 rw [h2]
 rw [Bool.eq_iff_iff]
 simp only [Bool.or_eq_true,Bool.and_eq_true,decide_eq_true_eq,Bool.and_false,Bool.or_false,Bool.false_eq_true,and_false,or_false,Bool.not_eq_true',Bool.or_eq_false_iff,Bool.and_eq_false_iff,decide_eq_false_iff_not]
 omega
theorem rng_blocks {n m : Int} {a b : ByteArray} (ha : txt a = kq 68 n ++ [max m 0 / 256,max m 0 % 256]) (hb : Up (kq 68 n) b) (h0 : 0 ≤ n) (h1 : n ≤ 4294967295) (hm : m ≤ 65535) : Rng a b fun s => decide (s.letter = 68) && decide (s.ino = n) && decide (m ≤ s.n) := by
 intro key hkey
 have h5 := sp_size hkey
 obtain ⟨p1,p2,p3⟩ := sp_parts hkey
 have h2 := lt_head key h5 68 n [max m 0 / 256,max m 0 % 256] h0 h1
 dsimp only
 rw [up_key hb h0 h1 h5,ha,h2]
 by_cases hc : (sp key).letter = 68
 ·obtain ⟨hz,hn⟩ := p3 hc
  have hl : ((txt key).drop 5).length = 2 := by rw [List.length_drop,txt_len]; omega
  have hbd : ∀ x ∈ (txt key).drop 5,0 ≤ x ∧ x ≤ 255 := fun x hx => txt_bd key x (List.mem_of_mem_drop hx)
  have h3 := lt_num ((txt key).drop 5) [max m 0 / 256,max m 0 % 256] hl hbd (by simp; omega)
  have g5 : (txt key).getD 5 0 = ((txt key).drop 5).getD 0 0 := by simp [List.getD_eq_getElem?_getD]
  have g6 : (txt key).getD 6 0 = ((txt key).drop 5).getD 1 0 := by simp [List.getD_eq_getElem?_getD]
  rw [g5,g6] at hn
  rw [h3]
  generalize (txt key).drop 5 = r at hl hn hbd
  match r,hl with
  | [p,q],_ =>
    have hp := hbd p (by simp)
    have hq := hbd q (by simp)
    have e1 : unbe [p,q] = 256 * p + q := by simp [unbe]; omega
    have e2 : unbe [max m 0 / 256,max m 0 % 256] = max m 0 := by simp [unbe]; omega
    have e3 : (sp key).n = 256 * p + q := hn
    rw [e1,e2,p1,p2,e3]
    rw [p1] at hc
    rw [Bool.eq_iff_iff]
    simp only [Bool.or_eq_true,Bool.and_eq_true,decide_eq_true_eq,Bool.not_eq_true',Bool.or_eq_false_iff,Bool.and_eq_false_iff,decide_eq_false_iff_not]
    omega
 ·rw [p1] at hc
  rw [p1]
  have d : decide ((txt key).getD 0 0 = 68) = false := by simpa using hc
  rw [d]
  simp
theorem rng_none {n m : Int} {b : ByteArray} (hm : 65535 < m) : Rng b b fun s => decide (s.letter = 68) && decide (s.ino = n) && decide (m ≤ s.n) := by
 intro key hkey
 obtain ⟨_,_,p3⟩ := sp_parts hkey
 dsimp only
 have : (decide ((sp key).letter = 68) && decide ((sp key).ino = n) && decide (m ≤ (sp key).n)) = false := by
  by_cases hc : (sp key).letter = 68
  ·obtain ⟨hz,hn⟩ := p3 hc
   have := back_D (key := key) (by have := (sp_parts hkey).1; omega) hz
   have h2 : ¬ m ≤ (sp key).n := by omega
   simp [h2]
  ·simp [hc]
 rw [this]
 simp
end Go.Proofs.YtogdjbhjgbnicaaGreatDoor.KeysV