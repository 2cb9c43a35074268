import Derived.Test.YtogdjbhjgbnicaaGreatDoorPackM
import GoSem.Op.String
set_option linter.unusedVariables false
set_option linter.unusedSimpArgs false
namespace Go.Proofs.YtogdjbhjgbnicaaGreatDoor.KeysM
open Byte PackM
theorem low_unbe (l : List Int) (h : ∀ x ∈ l,0 ≤ x ∧ x ≤ 255) : low l.length (unbe l) = l := by
 have key : ∀ n,∀ l : List Int,l.length = n → (∀ x ∈ l,0 ≤ x ∧ x ≤ 255) → low n (unbe l) = l := by
  intro n
  induction n with
  | zero =>
    intro l hl _
    rw [List.eq_nil_of_length_eq_zero hl]
    rfl
  | succ n ih =>
    intro l hl hb
    have hne : l ≠ [] := by
     rintro rfl
     simp at hl
    have hd := (List.dropLast_concat_getLast hne).symm
    have h1 : l.dropLast.length = n := by rw [List.length_dropLast,hl]; omega
    have h2 : ∀ x ∈ l.dropLast,0 ≤ x ∧ x ≤ 255 := fun x hx => hb x (List.dropLast_subset l hx)
    have h3 := hb _ (List.getLast_mem hne)
    have h4 := ih _ h1 h2
    rw [hd,unbe_snoc,low_snoc,show (unbe l.dropLast * 256 + l.getLast hne) / 256 = unbe l.dropLast by omega,h4,show (unbe l.dropLast * 256 + l.getLast hne) % 256 = l.getLast hne by omega]
 exact key _ l rfl h
theorem txt_append (s t : ByteArray) : txt (s ++ t) = txt s ++ txt t := by
 unfold txt
 rw [ByteArray.data_append]
 simp
theorem txt_inj {s t : ByteArray} (h : txt s = txt t) : s = t := by
 rw [← str_txt s,← str_txt t,h]
def E0 : ByteArray := ⟨#[]⟩
theorem txt_E0 : txt E0 = [] := rfl
theorem empty_of {s : ByteArray} (h : s.size = 0) : s = E0 := by
 apply txt_inj
 rw [txt_E0]
 exact List.eq_nil_of_length_eq_zero (by rw [txt_len,h])
def kq (c ino : Int) : List Int := c :: low 4 ino
theorem kq_len (c ino : Int) : (kq c ino).length = 5 := by simp [kq,low_len]
theorem kq_bd {c ino : Int} (h0 : 0 ≤ c) (h1 : c ≤ 255) : ∀ x ∈ kq c ino,0 ≤ x ∧ x ≤ 255 := by
 intro x hx
 rcases List.mem_cons.1 hx with rfl | h
 ·exact ⟨h0,h1⟩
 ·exact low_bd 4 ino x h
def ks (c ino : Int) : ByteArray := str (kq c ino)
theorem ks_size (c ino : Int) : (ks c ino).size = 5 := by unfold ks; rw [str_size,kq_len]
theorem ks_txt {c ino : Int} (h0 : 0 ≤ c) (h1 : c ≤ 255) : txt (ks c ino) = kq c ino := txt_str _ (kq_bd h0 h1)
def kI (ino : Int) : ByteArray := ks 73 ino
def kE (ino : Int) (name : ByteArray) : ByteArray := if 32 < name.size then E0 else ks 69 ino ++ name
def kD (ino n : Int) : ByteArray := if n < 0 ∨ 65536 ≤ n then E0 else ks 68 ino ++ str [n / 256,n % 256]
structure Sp where
 letter : Int
 ino : Int
 name : ByteArray
 n : Int
def sp (key : ByteArray) : Sp :=
 if key.size < 5 then ⟨0,0,E0,0⟩
 else if (txt key).getD 0 0 = 73 ∧ key.size = 5 then ⟨73,getn (txt key) 1 4,E0,0⟩
 else if (txt key).getD 0 0 = 69 ∧ 5 < key.size ∧ key.size ≤ 37 then ⟨69,getn (txt key) 1 4,key.extract 5 key.size,0⟩
 else if (txt key).getD 0 0 = 68 ∧ key.size = 7 then ⟨68,getn (txt key) 1 4,E0,256 * (txt key).getD 5 0 + (txt key).getD 6 0⟩
 else ⟨0,0,E0,0⟩
theorem sp_short {key : ByteArray} (h : key.size < 5) : sp key = ⟨0,0,E0,0⟩ := if_pos h
theorem sp_73 {key : ByteArray} (h0 : (txt key).getD 0 0 = 73) (h : key.size = 5) : sp key = ⟨73,getn (txt key) 1 4,E0,0⟩ := by
 unfold sp
 rw [if_neg (by omega),if_pos ⟨h0,h⟩]
theorem sp_69 {key : ByteArray} (h0 : (txt key).getD 0 0 = 69) (h1 : 5 < key.size) (h2 : key.size ≤ 37) : sp key = ⟨69,getn (txt key) 1 4,key.extract 5 key.size,0⟩ := by
 unfold sp
 rw [if_neg (by omega),if_neg (by omega),if_pos ⟨h0,h1,h2⟩]
theorem sp_68 {key : ByteArray} (h0 : (txt key).getD 0 0 = 68) (h : key.size = 7) : sp key = ⟨68,getn (txt key) 1 4,E0,256 * (txt key).getD 5 0 + (txt key).getD 6 0⟩ := by
 unfold sp
 rw [if_neg (by omega),if_neg (by omega),if_neg (by omega),if_pos ⟨h0,h⟩]
theorem sp_none {key : ByteArray} (h1 : ¬ ((txt key).getD 0 0 = 73 ∧ key.size = 5)) (h2 : ¬ ((txt key).getD 0 0 = 69 ∧ 5 < key.size ∧ key.size ≤ 37)) (h3 : ¬ ((txt key).getD 0 0 = 68 ∧ key.size = 7)) : sp key = ⟨0,0,E0,0⟩ := by
 unfold sp
 by_cases h : key.size < 5
 ·rw [if_pos h]
 ·rw [if_neg h,if_neg h1,if_neg h2,if_neg h3]
theorem sp_ways (key : ByteArray) : (sp key = ⟨0,0,E0,0⟩) ∨ ((txt key).getD 0 0 = 73 ∧ key.size = 5) ∨ ((txt key).getD 0 0 = 69 ∧ 5 < key.size ∧ key.size ≤ 37) ∨ ((txt key).getD 0 0 = 68 ∧ key.size = 7) := by
 by_cases h1 : (txt key).getD 0 0 = 73 ∧ key.size = 5
 ·exact .inr (.inl h1)
 by_cases h2 : (txt key).getD 0 0 = 69 ∧ 5 < key.size ∧ key.size ≤ 37
 ·exact .inr (.inr (.inl h2))
 by_cases h3 : (txt key).getD 0 0 = 68 ∧ key.size = 7
 ·exact .inr (.inr (.inr h3))
 exact .inl (sp_none h1 h2 h3)
theorem getn_bd (key : ByteArray) : 0 ≤ getn (txt key) 1 4 ∧ getn (txt key) 1 4 ≤ 4294967295 := by
 have := get_bd (txt key) 1 4 (txt_bd key)
 have e : (256 : Int) ^ 4 = 4294967296 := by decide
 omega
theorem front {key : ByteArray} (h : 5 ≤ key.size) : (txt key).take 5 = kq ((txt key).getD 0 0) (getn (txt key) 1 4) := by
 have hl := txt_len key
 have hb := txt_bd key
 generalize txt key = l at hl hb
 match l,hl with
 | a :: b :: c :: d :: e :: r,hl =>
   have hq : getn (a :: b :: c :: d :: e :: r) 1 4 = unbe [b,c,d,e] := rfl
   rw [hq]
   have := low_unbe [b,c,d,e] (fun x hx => hb x (by simp at hx ⊢; rcases hx with h | h | h | h <;> simp [h]))
   unfold kq
   rw [show low 4 (unbe [b,c,d,e]) = [b,c,d,e] from this]
   rfl
 | [],hl => simp at hl; omega
 | [_],hl => simp at hl; omega
 | [_,_],hl => simp at hl; omega
 | [_,_,_],hl => simp at hl; omega
 | [_,_,_,_],hl => simp at hl; omega
theorem getn_kq (c ino : Int) (r : List Int) (h0 : 0 ≤ ino) (h1 : ino ≤ 4294967295) : getn (kq c ino ++ r) 1 4 = ino := by
 unfold getn kq
 rw [List.cons_append,List.drop_succ_cons,List.drop_zero,List.take_left' (low_len 4 ino),unbe_low]
 exact Int.emod_eq_of_lt h0 (by have e : (256 : Int) ^ 4 = 4294967296 := (by decide); omega)
theorem sp_I (ino : Int) (h0 : 0 ≤ ino) (h1 : ino ≤ 4294967295) : sp (kI ino) = ⟨73,ino,E0,0⟩ := by
 have ht : txt (kI ino) = kq 73 ino := ks_txt (by omega) (by omega)
 have hz : (kI ino).size = 5 := ks_size _ _
 rw [sp_73 (by rw [ht]; rfl) hz,ht]
 have := getn_kq 73 ino [] h0 h1
 rw [List.append_nil] at this
 rw [this]
theorem sp_E (ino : Int) (name : ByteArray) (h0 : 0 ≤ ino) (h1 : ino ≤ 4294967295) (h2 : 0 < name.size) (h3 : name.size ≤ 32) : sp (kE ino name) = ⟨69,ino,name,0⟩ := by
 have hk : kE ino name = ks 69 ino ++ name := if_neg (by omega)
 have ht : txt (kE ino name) = kq 69 ino ++ txt name := by rw [hk,txt_append,ks_txt (by omega) (by omega)]
 have hs : (kE ino name).size = 5 + name.size := by rw [hk,ByteArray.size_append,ks_size]
 rw [sp_69 (by rw [ht]; rfl) (by omega) (by omega),ht,getn_kq 69 ino _ h0 h1]
 congr 1
 apply txt_inj
 have e : txt ((kE ino name).extract 5 (kE ino name).size) = (txt (kE ino name)).drop 5 := by
  unfold txt
  rw [ByteArray.data_extract]
  have : (kE ino name).size = (kE ino name).data.size := rfl
  simp [List.map_drop]
  rw [List.take_of_length_le]
  simp
 rw [e,ht,List.drop_left' (kq_len _ _)]
theorem sp_D (ino n : Int) (h0 : 0 ≤ ino) (h1 : ino ≤ 4294967295) (h2 : 0 ≤ n) (h3 : n ≤ 65535) : sp (kD ino n) = ⟨68,ino,E0,n⟩ := by
 have hk : kD ino n = ks 68 ino ++ str [n / 256,n % 256] := if_neg (by omega)
 have ht : txt (kD ino n) = kq 68 ino ++ [n / 256,n % 256] := by
  rw [hk,txt_append,ks_txt (by omega) (by omega),txt_str _ (by simp; omega)]
 have hs : (kD ino n).size = 7 := by rw [hk,ByteArray.size_append,ks_size,str_size]; rfl
 rw [sp_68 (by rw [ht]; rfl) hs,ht,getn_kq 68 ino _ h0 h1]
 congr 1
 have e5 : (kq 68 ino ++ [n / 256,n % 256]).getD 5 0 = n / 256 := by
  rw [List.getD_eq_getElem?_getD,List.getElem?_append_right (by rw [kq_len]; omega),kq_len]
  rfl
 have e6 : (kq 68 ino ++ [n / 256,n % 256]).getD 6 0 = n % 256 := by
  rw [List.getD_eq_getElem?_getD,List.getElem?_append_right (by rw [kq_len]; omega),kq_len]
  rfl
 rw [e5,e6]
 omega
theorem txt_split {key : ByteArray} (h : 5 ≤ key.size) : txt key = kq ((txt key).getD 0 0) (getn (txt key) 1 4) ++ (txt key).drop 5 := by
 rw [← front h,List.take_append_drop]
theorem txt_drop (s : ByteArray) (k : Nat) : txt (s.extract k s.size) = (txt s).drop k := by
 unfold txt
 rw [ByteArray.data_extract]
 have : s.size = s.data.size := rfl
 simp [List.map_drop]
 rw [List.take_of_length_le]
 simp
theorem back_D {key : ByteArray} (h0 : (txt key).getD 0 0 = 68) (h1 : key.size = 7) : kD (getn (txt key) 1 4) (256 * (txt key).getD 5 0 + (txt key).getD 6 0) = key ∧ 0 ≤ 256 * (txt key).getD 5 0 + (txt key).getD 6 0 ∧ 256 * (txt key).getD 5 0 + (txt key).getD 6 0 ≤ 65535 := by
 have hs := txt_split (key := key) (by omega)
 have hl : ((txt key).drop 5).length = 2 := by rw [List.length_drop,txt_len]; omega
 have g5 : (txt key).getD 5 0 = ((txt key).drop 5).getD 0 0 := by simp [List.getD_eq_getElem?_getD]
 have g6 : (txt key).getD 6 0 = ((txt key).drop 5).getD 1 0 := by simp [List.getD_eq_getElem?_getD]
 have hb : ∀ x ∈ (txt key).drop 5,0 ≤ x ∧ x ≤ 255 := fun x hx => txt_bd key x (List.mem_of_mem_drop hx)
 rw [g5,g6]
 generalize (txt key).drop 5 = r at hs hl hb
 match r,hl with
 | [p,q],_ =>
   have hp := hb p (by simp)
   have hq := hb q (by simp)
   show kD _ (256 * p + q) = key ∧ 0 ≤ 256 * p + q ∧ 256 * p + q ≤ 65535
   refine ⟨?_,by omega,by omega⟩
   have hk : kD (getn (txt key) 1 4) (256 * p + q) = ks 68 (getn (txt key) 1 4) ++ str [(256 * p + q) / 256,(256 * p + q) % 256] := if_neg (by omega)
   rw [show (256 * p + q) / 256 = p by omega,show (256 * p + q) % 256 = q by omega] at hk
   apply txt_inj
   rw [hk,txt_append,ks_txt (by omega) (by omega),txt_str _ hb]
   rw [h0] at hs
   exact hs.symm
def lt : List Int → List Int → Bool
 | _,[] => false
 | [],_ :: _ => true
 | a :: x,b :: y => decide (a < b) || (decide (a = b) && lt x y)
theorem less_lt (s t : List UInt8) : Op.bytesLess s t = lt (s.map fun b => (b.toNat : Int)) (t.map fun b => (b.toNat : Int)) := by
 induction s generalizing t with
 | nil => cases t <;> rfl
 | cons a x ih =>
   cases t with
   | nil => rfl
   | cons b y =>
     simp only [Op.bytesLess,List.map_cons,lt,ih]
     congr 1
     ·rw [Bool.eq_iff_iff]
      simp [UInt8.lt_iff_toNat_lt]
     ·congr 1
      rw [Bool.eq_iff_iff,beq_iff_eq,decide_eq_true_eq]
      exact ⟨fun h => by rw [h],fun h => UInt8.toNat_inj.1 (by omega)⟩
theorem lt_append (p q r s : List Int) (h : p.length = q.length) : lt (p ++ r) (q ++ s) = (lt p q || (decide (p = q) && lt r s)) := by
 induction p generalizing q with
 | nil =>
   obtain rfl : q = [] := List.eq_nil_of_length_eq_zero h.symm
   simp [lt]
 | cons a p ih =>
   cases q with
   | nil => simp at h
   | cons b q =>
     rw [List.cons_append,List.cons_append,lt,lt,ih q (by simpa using h)]
     rcases Int.lt_trichotomy a b with h1 | h1 | h1
     ·simp [h1]
     ·subst h1
      simp
     ·simp [show ¬ a < b by omega,show a ≠ b by omega]
theorem lt_num (p q : List Int) (h : p.length = q.length) (hp : ∀ x ∈ p,0 ≤ x ∧ x ≤ 255) (hq : ∀ x ∈ q,0 ≤ x ∧ x ≤ 255) : lt p q = decide (unbe p < unbe q) := by
 have fold : ∀ (p q : List Int) (a b : Int),p.length = q.length → (∀ x ∈ p,0 ≤ x ∧ x ≤ 255) → (∀ x ∈ q,0 ≤ x ∧ x ≤ 255) →
  decide (p.foldl (fun a b => a * 256 + b) a < q.foldl (fun a b => a * 256 + b) b) = (decide (a < b) || (decide (a = b) && lt p q)) := by
  intro p
  induction p with
  | nil =>
    intro q a b h _ _
    obtain rfl : q = [] := List.eq_nil_of_length_eq_zero h.symm
    rw [Bool.eq_iff_iff]
    simp only [lt,List.foldl_nil,Bool.and_false,Bool.or_false]
    exact Iff.rfl
  | cons x p ih =>
    intro q a b h hp hq
    cases q with
    | nil => simp at h
    | cons y q =>
      have hx := hp x (by simp)
      have hy := hq y (by simp)
      rw [List.foldl_cons,List.foldl_cons,ih q _ _ (by simpa using h) (fun z hz => hp z (by simp [hz])) (fun z hz => hq z (by simp [hz])),lt]
      rw [Bool.eq_iff_iff]
      simp only [Bool.or_eq_true,Bool.and_eq_true,decide_eq_true_eq]
      constructor
      ·rintro (h | ⟨h1,h2⟩)
       ·by_cases e : a = b
        ·subst e
         exact .inr ⟨rfl,.inl (by omega)⟩
        ·exact .inl (by omega)
       ·by_cases e : a = b
        ·subst e
         exact .inr ⟨rfl,.inr ⟨by omega,h2⟩⟩
        ·exact .inl (by omega)
      ·rintro (h | ⟨rfl,h | ⟨rfl,h2⟩⟩)
       ·exact .inl (by omega)
       ·exact .inl (by omega)
       ·exact .inr ⟨rfl,h2⟩
 have := fold p q 0 0 h hp hq
 unfold unbe
 rw [this]
 simp
theorem lt_kq (c c' n n' : Int) (r s : List Int) (hc : 0 ≤ n) (hn : n ≤ 4294967295) (hc' : 0 ≤ n') (hn' : n' ≤ 4294967295) :
 lt (kq c n ++ r) (kq c' n' ++ s) = (decide (c < c') || (decide (c = c') && (decide (n < n') || (decide (n = n') && lt r s)))) := by
 unfold kq
 rw [List.cons_append,List.cons_append,lt,lt_append _ _ _ _ (by rw [low_len,low_len]),lt_num _ _ (by rw [low_len,low_len]) (low_bd 4 n) (low_bd 4 n'),unbe_low,unbe_low]
 have e : (256 : Int) ^ 4 = 4294967296 := by decide
 rw [e,Int.emod_eq_of_lt hc (by omega),Int.emod_eq_of_lt hc' (by omega)]
 have h2 : decide (low 4 n = low 4 n') = decide (n = n') := by
  rw [Bool.eq_iff_iff]
  simp only [decide_eq_true_eq]
  constructor
  ·intro h
   have := congrArg unbe h
   rw [unbe_low,unbe_low,e,Int.emod_eq_of_lt hc (by omega),Int.emod_eq_of_lt hc' (by omega)] at this
   exact this
  ·rintro rfl
   rfl
 rw [h2]
def nameOk (s : ByteArray) : Bool := decide (0 < s.size) && decide (s.size ≤ 32) && (txt s).all (fun x => decide (x ≠ 0) && decide (x ≠ 47)) && decide (txt s ≠ [46]) && decide (txt s ≠ [46,46])
end Go.Proofs.YtogdjbhjgbnicaaGreatDoor.KeysM