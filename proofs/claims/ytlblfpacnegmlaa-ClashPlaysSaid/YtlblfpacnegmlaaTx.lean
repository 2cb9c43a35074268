import Derived.Test.YtlblfpacnegmlaaArgs
import Derived.SizedLaws
set_option linter.unusedVariables false
set_option linter.unusedSimpArgs false
set_option maxRecDepth 100000
namespace Go.Proofs.Ytlblfpacnegmlaa.Tx
open Go.RowKit Go.ChangeShapes Go.WideShapes Go.Deep Go.Maps
open Go.Proofs.Ytlblfpacnegmlaa.Form Lst Args
def txE : Enc ByteArray := ⟨fun s => [.string s],1,fun _ => rfl,fun x u hu => by
 rw [List.mem_singleton] at hu
 subst hu
 rfl,by decide⟩
theorem tx_cell {w : World} {b o k : Nat} {x : ByteArray} (h : w.rangeAt b (o + k * txE.size) (txE.cells x)) : w.cell? ⟨b,o + k,none⟩ = some (.string x) := by
 have := h 0 _ rfl
 rw [show txE.size = 1 from rfl,Nat.mul_one] at this
 exact this
theorem info_tx : (Try.prog.info? 9).map (fun i => (i.zero,i.size,i.bytes)) = some (some (.string ⟨#[]⟩),txE.size,16) := by kernel_rfl
theorem So.head {α : Type} {e : Enc α} {T : TypeId} {w : World} {base n : Nat} {v : Value} {L : List α} (h : So e T w base v n L) : ∃ A c,v = .slice A n c ∧ n ≤ c ∧ c ≤ maxLen ∧ (A = none → c = 0) := by
 rcases h.form with ⟨rfl,rfl⟩ | ⟨g,cap,rfl,_,_,h1,h2⟩
 ·exact ⟨none,0,rfl,Nat.le_refl _,Nat.zero_le _,fun _ => rfl⟩
 ·exact ⟨_,cap,rfl,h1,h2,fun h => by cases h⟩
section
variable {P : Program} {w : World}
theorem wpList_append_any {α : Type} {ops : Array Oper} {rest : List Oper} {o : Oper} {a : Act} {Q : Exit → Act → World → Prop} (e : Enc α) (T : TypeId) (hgd : o.guard = none) (s x : Operand) (t : TypeId)
 (ho : o.op = .call { callee := .builtin .append,args := #[s,x],argTypes := #[t,t] }) (ht : P.underlying t = some (.slice T)) {z : Value} {bytes : Nat} (hinfo : (P.info? T).map (fun i => (i.zero,i.size,i.bytes)) = some (some z,e.size,bytes)) (hzs : z.cells.size = e.size)
 (base : Nat) (v : Value) (n : Nat) (L : List α) (hs : a.eval s = v) (hown : So e T w base v n L)
 (A : Option Addr) (m c : Nat) (M : List α) (hx : a.eval x = .slice A m c) (hr : Sl e w A m M) (hnil : A = none → c = 0)
 (N : Nat) (hN : n + m = N) (K : List α) (hK : L ++ M = K) (h63 : N ≤ maxLen) (hbytes : N * bytes ≤ 140737488355328) (hbase : base ≤ w.heap.size)
 (h : ∀ v' w',So e T w' base v' N K → w.grownBy w' v.ownBlock → (v'.ownBlock = v.ownBlock ∨ v'.ownBlock = some w.heap.size) → wpList P ops Q rest (a.put o.dst v') w') :
 wpList P ops Q (o :: rest) a w := by
 subst hN
 subst hK
 obtain ⟨i,hi,hz0,hz1,hz2⟩ := info_parts hinfo
 have hm0 : m = 0 → M = [] := fun h => List.eq_nil_of_length_eq_zero (hr.1.trans h)
 cases A with
 | none =>
   have hc := hnil rfl
   subst hc
   have hm : m = 0 := by
    rcases Nat.eq_zero_or_pos m with h0 | h0
    ·exact h0
    ·obtain ⟨_,_,_,_,e1,_⟩ := hr.get 0 h0
     cases e1
   subst hm
   have hM := hm0 rfl
   subst hM
   refine wpList_append_own_none hgd s x t ho base T i e.size ht hi v n _ hs hown.2 hx ?_
   exact h v w (by simpa using hown) (World.grownBy.refl w _) (.inl rfl)
 | some b =>
   rcases Nat.eq_zero_or_pos m with h0 | h0
   ·subst h0
    have hM := hm0 rfl
    subst hM
    refine wpList_append_own_at _ hgd s x _ ho base T i _ e.size bytes ht hi hz0 hz1 hz2 hzs e.pos _ n _ hs hown.2 b 0 c [] hx (by simp) (fun j u hu => by simp at hu) (fun u hu => by simp at hu) h63 hbytes hbase ?_
    intro v' w' hown' hg hnil' hat
    exact h v' w' ⟨by simpa using hown.1,by simpa using hown'⟩ hg hat
   ·obtain ⟨_,bb,oo,_,e1,_⟩ := hr.get 0 h0
    injection e1 with e1
    subst e1
    exact wpList_append_lst e T hgd s x t ho ht hinfo hzs base v n L hs hown bb oo m c M hx hr _ rfl _ rfl h63 hbytes hbase (fun v' w' h1 h2 h3 _ => h v' w' h1 h2 h3)
end
theorem weights_all {H : Type} {P : Program} {e : TypeId} : ∀ {ds : List (DataW H)} {d : DataW H},d ∈ ds → ∀ n ∈ d.weights P e,n ∈ DataW.weightsAll P e ds
 | a :: ds,d,h,n,hn => by
   simp only [DataW.weightsAll,List.mem_append]
   rcases List.mem_cons.1 h with rfl | h
   ·exact .inl hn
   ·exact .inr (weights_all h n hn)
 | [],d,h,_,_ => by cases h
theorem strs_reach {H : Type} {enc : TypeId × Value → H} {w : World} {base fuel : Nat} {cs : List Value} {x : DataW H × List MemPlace} (h : DataW.trod enc Try.prog w base (fun _ => true) true fuel 22 cs = some x) (hw : ∀ n ∈ x.1.weights Try.prog 22,n ≤ reachBytes) :
 ∃ A m c,∃ L : List ByteArray,cs = [.slice A m c] ∧ m ≤ c ∧ c ≤ maxLen ∧ Sl txE w A m L ∧ (∀ p ∈ L,p.size ≤ 140737488351232) ∧ (A = none → c = 0) ∧ c * 16 ≤ 140737488351232 := by
 obtain ⟨A,m,c,L,hcs,h1,h2,h3,_⟩ := sl_of txE (fun p => p.size ≤ maxLen) 4 Try.underlying22 (by kernel_rfl) (fun es hl hs => by
  obtain ⟨s,rfl,h1⟩ := hs.string Try.underlying9
  exact ⟨s,rfl,h1⟩) h
 have hA : (A = none → c = 0) ∧ c * 16 ≤ 140737488351232 := by
  rcases open_slice Try.underlying22 h with ⟨e,_⟩ | ⟨a,len,cap,k,n,D,Pl,e,_,hl,_,hk,hx,hc⟩
  ·rw [hcs] at e
   simp at e
   omega
  ·rw [hcs] at e
   simp at e
   obtain ⟨rfl,rfl,rfl⟩ := e
   refine ⟨(fun h => by cases h),?_⟩
   have hkc : k = c := by simpa using hk
   have h5 := hw (c * 16) (by
    rw [hx]
    simp only [DataW.weights,Try.underlying22]
    refine List.mem_cons.2 (.inl ?_)
    rw [show Try.prog.bytesOf 9 = 16 by kernel_rfl]
    simp
    omega)
   unfold reachBytes at h5
   omega
 refine ⟨A,m,c,L,hcs,h1,h2,h3,fun p hp => ?_,hA⟩
 obtain ⟨j,hj⟩ := List.mem_iff_getElem?.1 hp
 have hjm : j < m := by
  have := (List.getElem?_eq_some_iff.1 hj).1
  rw [h3.1] at this
  exact this
 rcases open_slice Try.underlying22 h with ⟨e,_⟩ | ⟨a,len,cap,k,n,D,Pl,e,_,hl,_,hk,hx,hc⟩
 ·rw [hcs] at e
  simp at e
  omega
 ·rw [hcs] at e
  simp at e
  obtain ⟨rfl,rfl,rfl⟩ := e
  have hkc : k = c := by simpa using hk
  obtain ⟨es,g1,g2⟩ := hc j (by omega)
  obtain ⟨s,rfl,e2,_⟩ := DataW.trod_string Try.underlying9 g2
  obtain ⟨_,_,g3⟩ := World.cells?_some g1
  have g4 := g3 0 (by rw [show Try.prog.cellsOf 9 = 1 by kernel_rfl]; decide)
  obtain ⟨b,o,ea,_,g5⟩ := h3.2 j p hj
  injection ea with ea
  subst ea
  have g6 := tx_cell g5
  rw [show Try.prog.cellsOf 9 = 1 by kernel_rfl,Nat.mul_one] at g4
  have hadd : ((⟨b,o,none⟩ : Addr).add j).add 0 = ⟨b,o + j,none⟩ := by
   unfold Addr.add
   by_cases h0 : j = 0 <;> simp [h0]
  rw [hadd,g6] at g4
  simp at g4
  subst g4
  have h5 := hw p.data.toList.length (by
   rw [hx]
   simp only [DataW.weights,Try.underlying22]
   refine List.mem_cons_of_mem _ (List.mem_append_left _ (weights_all (d := D j) (List.mem_map.2 ⟨j,List.mem_range.2 (by omega),rfl⟩) _ ?_))
   have e3 : D j = .lit (.string p.data.toList) := congrArg Prod.fst e2
   rw [e3]
   simp [DataW.weights])
  unfold reachBytes at h5
  have : p.data.toList.length = p.size := Array.length_toList
  omega
end Go.Proofs.Ytlblfpacnegmlaa.Tx