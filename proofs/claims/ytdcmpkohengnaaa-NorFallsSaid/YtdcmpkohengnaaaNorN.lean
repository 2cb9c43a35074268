/- The contract of 'bytes.Repeat' of one byte, and of math/bits.Mul beneath it. -/
import Derived.Test.YtdcmpkohengnaaaNorH
import Derived.Lib.MakeNoZero
import Derived.Laws.CopyOwn
import Derived.Deep.RegionLaw
namespace Go.Proofs.Ytdcmpkohengnaaa.NorN
set_option linter.unusedVariables false
set_option linter.unusedSimpArgs false
open Go.RowKit Go.Maps
open Go.Proofs.Ytdcmpkohengnaaa.Byte Go.Proofs.Ytdcmpkohengnaaa.NorD Go.Proofs.Ytdcmpkohengnaaa.NorW Go.Proofs.Ytdcmpkohengnaaa.NorM Go.Proofs.Ytdcmpkohengnaaa.NorS Go.Proofs.Ytdcmpkohengnaaa.NorF

set_option maxHeartbeats 400000 in
theorem mul64_calls (z : Nat) (w : World) (hz : z ≤ 100000) : Calls Try.prog 53 #[.int .u64 1, .int .u64 z] w fun e w' => e = .returned (.tuple #[.int .u64 0, .int .u64 z]) ∧ w = w' := by
  have e1 : bits .and .u64 (z : Int) 4294967295 = (z : Int) := by
    rw [u64_and _ _ (by omega) (by omega) (by omega) (by omega)]
    have := nat_mask32 z
    rw [Int.toNat_natCast, show (4294967295 : Int).toNat = 4294967295 from rfl, this]
    omega
  have e2 : bits .and .u64 1 4294967295 = 1 := by
    rw [u64_and _ _ (by omega) (by omega) (by omega) (by omega)]
    rfl
  have e4 : bits .and .u64 0 4294967295 = 0 := by
    rw [u64_and _ _ (by omega) (by omega) (by omega) (by omega)]
    rfl
  have e3 : (z : Int) / 4294967296 = 0 := by omega
  go_enter Try.func53, Try.ntmps53
  go_wp2
  go_ret2
  exact ⟨rfl, rfl⟩
set_option maxHeartbeats 400000 in
theorem mul_calls (z : Nat) (w : World) (hz : z ≤ 100000) : Calls Try.prog 47 #[.int .u64 1, .int .u64 z] w fun e w' => e = .returned (.tuple #[.int .u64 0, .int .u64 z]) ∧ w = w' := by
  go_enter Try.func47, Try.ntmps47
  go_wp2_with (go_at_call 53; refine (mul64_calls z _ hz).mono ?_; rintro e w' ⟨rfl, rfl⟩)
  go_ret2
  exact ⟨rfl, rfl⟩

/-- Block g: at least n cells, of which the first k are bytes 255. -/
def Part (w : World) (g n k : Nat) : Prop := ∃ cur : Array Value, Blk w g 5 cur ∧ n ≤ cur.size ∧ cur.size ≤ maxLen ∧ k ≤ n ∧ ∀ j, j < k → cur[j]? = some (.int .u8 255)
theorem Part.more {w : World} {g n k : Nat} (h : Part w g n k) (m : Nat) (hm : k + m ≤ n) (off : Nat) (hoff : off = k) (cur : Array Value) (hb : Blk w g 5 cur) :
    Part (w.setRow g (cur.toList.take off ++ (List.replicate m (Value.int .u8 255) ++ cur.toList.drop (off + m))).toArray) g n (k + m) := by
  subst hoff
  obtain ⟨cur', hb', h1, h2, h3, h4⟩ := h
  have e : cur' = cur := by
    unfold Blk at hb hb'
    rw [hb] at hb'
    injection hb' with hb'
    injection hb' with hb' _ _
    exact hb'.symm
  subst e
  refine ⟨_, setRow_heap _ _ _ _ _ _ hb, ?_, ?_, hm, fun j hj => ?_⟩
  · simp; omega
  · simp; omega
  · rw [List.getElem?_toArray]
    by_cases hjo : j < off
    · rw [List.getElem?_append_left (by simp; omega), List.getElem?_take, if_pos hjo]
      simpa using h4 j hjo
    · have hl : (cur'.toList.take off).length = off := by simp; omega
      rw [List.getElem?_append_right (by rw [hl]; omega), hl, List.getElem?_append_left (by simp; omega), List.getElem?_replicate, if_pos (by omega)]
theorem Part.done {w : World} {g n lo : Nat} (h : Part w g n n) (hlo : lo ≤ g) : ∃ cap, Ob w lo 5 g n cap (List.replicate n 255) := by
  obtain ⟨cur, hb, h1, h2, h3, h4⟩ := h
  refine ⟨cur.size, by simp, fun x hx => by rw [List.eq_of_mem_replicate hx]; omega, by simp, .inr ⟨g, cur.size, cur, rfl, hlo, hb, h1, h2, by omega, ?_⟩⟩
  rw [Nat.mul_one, List.map_replicate]
  apply List.ext_getElem?
  intro i
  rw [List.getElem?_take, List.getElem?_replicate]
  split
  · rw [Array.getElem?_toList]
    exact h4 i (by assumption)
  · rfl

theorem one_cell {w : World} {b o : Nat} {u : Value} (h : w.cell? ⟨b, o, none⟩ = some u) : ∀ j v, (List.replicate 1 u)[j]? = some v → w.cell? ((⟨b, o, none⟩ : Addr).add j) = some v := by
  intro j v hj
  cases j with
  | zero =>
    simp at hj
    subst hj
    exact h
  | succ j => simp at hj
theorem Part.cells {w : World} {g n k : Nat} (h : Part w g n k) (m : Nat) (hm : m ≤ k) : ∀ j v, (List.replicate m (Value.int .u8 255))[j]? = some v → w.cell? ((⟨g, 0, none⟩ : Addr).add j) = some v := by
  intro j v hj
  rw [List.getElem?_replicate] at hj
  split at hj
  · injection hj with hj
    subst hj
    obtain ⟨cur, hb, _, _, _, h4⟩ := h
    have e2 : (⟨g, 0, none⟩ : Addr).add j = ⟨g, j, none⟩ := by
      unfold Addr.add
      by_cases h0 : j = 0 <;> simp [h0]
    rw [e2, hb.cell]
    exact h4 j (by omega)
  · cases hj

/-- copy of bytes 255 behind those that are there. -/
theorem wpList_copy_part {P : Program} {w : World} {ops : Array Oper} {rest : List Oper} {o : Oper} {a : Act} {Q : Exit → Act → World → Prop} (hgd : o.guard = none) (d s : Operand) (dT sT : TypeId)
    (ho : o.op = .call { callee := .builtin .copy, args := #[d, s], argTypes := #[dT, sT] }) (e : TypeId) (hu : P.underlying dT = some (.slice e)) (hsz : (P.info? e).map (·.size) = some 1)
    (g n k m off dLen dCap : Nat) (ad : Addr) (sLen sCap : Nat) (hd : a.eval d = .slice (some ⟨g, off, none⟩) dLen dCap) (hs : a.eval s = .slice (some ad) sLen sCap) (hp : Part w g n k) (hoff : off = k) (hm : m = min sLen dLen) (hfit : k + m ≤ n)
    (hsrc : ∀ j v, (List.replicate m (Value.int .u8 255))[j]? = some v → w.cell? (ad.add j) = some v)
    (h : ∀ w', Part w' g n (k + m) → w.grownBy w' (some g) → wpList P ops Q rest (a.put o.dst (goInt m)) w') : wpList P ops Q (o :: rest) a w := by
  have hp' := hp
  obtain ⟨cur, hb, h1, h2, h3, h4⟩ := hp'
  subst hoff
  refine wpList_copy_own hgd d s dT sT ho e hu hsz g off dLen dCap ad sLen sCap hd hs cur _ hb (List.replicate m (Value.int .u8 255)) (by rw [List.length_replicate]; exact hm) hsrc (by rw [List.length_replicate]; omega) (fun v hv => by rw [List.eq_of_mem_replicate hv]; rfl) ?_
  rw [List.length_replicate]
  exact h _ (hp.more m hfit off rfl cur hb) (grown_setRow w g _)

theorem step_copy_part {P : Program} {w : World} {ops : Array Oper} {o : Oper} {a : Act} {K : Act → World → Prop} {Q : Exit → Act → World → Prop} {E : Prop} (hgd : o.guard = none) (d s : Operand) (dT sT : TypeId)
    (ho : o.op = .call { callee := .builtin .copy, args := #[d, s], argTypes := #[dT, sT] }) (e : TypeId) (hu : P.underlying dT = some (.slice e)) (hsz : (P.info? e).map (·.size) = some 1)
    (g n k m off dLen dCap : Nat) (ad : Addr) (sLen sCap : Nat) (hd : a.eval d = .slice (some ⟨g, off, none⟩) dLen dCap) (hs : a.eval s = .slice (some ad) sLen sCap) (hp : Part w g n k) (hoff : off = k) (hm : m = min sLen dLen) (hfit : k + m ≤ n)
    (hsrc : ∀ j v, (List.replicate m (Value.int .u8 255))[j]? = some v → w.cell? (ad.add j) = some v)
    (h : ∀ w', Part w' g n (k + m) → w.grownBy w' (some g) → K (a.put o.dst (goInt m)) w') : if Region.wanted o (yielded ops a.tmps) = true then Oper.wp P o a w K Q else E := by
  have hw : Region.wanted o (yielded ops a.tmps) = true := by simp [Region.wanted, hgd]
  rw [if_pos hw]
  have hp' := hp
  obtain ⟨cur, hb, h1, h2, h3, h4⟩ := hp'
  subst hoff
  have hrun := run_copy_row (P := P) w dT sT o.type e g off dLen dCap ad sLen sCap cur _ (List.replicate m (Value.int .u8 255)) hu hsz hb (by rw [List.length_replicate]; exact hm) hsrc (by rw [List.length_replicate]; omega) (fun v hv => by rw [List.eq_of_mem_replicate hv]; rfl)
  rw [List.length_replicate] at hrun
  have hm2 := hp.more m hfit off rfl cur hb
  rw [← List.append_assoc] at hm2
  unfold Oper.wp execOp
  simp only [ho, resolve, invoke, builtin, Sem.run_bind, Sem.run_pure, Result.andThen_ok, List.map_toArray, List.map_cons, List.map_nil, hd, hs, hrun]
  exact h _ hm2 (grown_setRow w g _)

set_option maxRecDepth 100000 in
set_option maxHeartbeats 1000000 in
theorem repeat_calls (b o c z : Nat) (w : World) (hc : w.cell? ⟨b, o, none⟩ = some (.int .u8 255)) (hz0 : 1 < z) (hz : z ≤ 4096) :
    Calls Try.prog 30 #[.slice (some ⟨b, o, none⟩) 1 c, .int .i64 z] w fun e w' => ∃ g cap, e = .returned (.slice (some ⟨g, 0, none⟩) z z) ∧ Ob w' w.heap.size 5 g z cap (List.replicate z 255) ∧ Below w.heap.size w w' := by
  obtain ⟨cs, hrunM, hle, hmx⟩ := Lib.run_makeNoZero (P := Try.prog) w #[3] 38 5 Try.underlying38 z (by omega)
  have hcall : (callFunc 48 #[.int .i64 (z : Int)]).run Try.prog w = .ok (.value (.slice (some ⟨w.heap.size, 0, none⟩) z cs.size)) (w.drew.drew.alloc (.cells cs 5)) := by
    rw [run_callFunc_extern (P := Try.prog) (f := 48) (fn := Try.f48) (by kernel_rfl) (by kernel_rfl) (by kernel_rfl) (by kernel_rfl) (e := Extern.BytealgMakeNoZero.makeNoZero #[3] #[38]) (by kernel_rfl), hrunM]
    rfl
  clear hrunM
  have i1 : (z : Int) ≤ (cs.size : Int) := by omega
  have e0 : ((z : Int) == 0) = false := beq_eq_false_iff_ne.2 (by omega)
  have e1 : decide ((z : Int) < 0) = false := by simp
  have e2 : decide ((9223372036854775807 : Int) < (z : Int)) = false := by simp; omega
  have e3 : decide ((8192 : Int) < (z : Int)) = false := by simp; omega
  have hl := World.block_lt_of_cell? w ⟨b, o, none⟩ hc
  have hmx := hmx (by simp only [maxLen]; omega)
  have hsz : (Try.prog.info? 5).map (·.size) = some 1 := by kernel_rfl
  have hb0 : Blk (w.alloc (.cells cs 5)).drew.drew w.heap.size 5 cs := Blk.new w _ _
  have hp0 : Part (w.alloc (.cells cs 5)).drew.drew w.heap.size z 0 := ⟨cs, hb0, hle, hmx, Nat.zero_le _, fun j hj => by omega⟩
  have hbel0 : Below w.heap.size w (w.alloc (.cells cs 5)).drew.drew := ((Below.refl _ _).alloc (Nat.le_refl _) _).drew.drew
  have hc1 : (w.alloc (.cells cs 5)).drew.drew.cell? ⟨b, o, none⟩ = some (.int .u8 255) := (hbel0.cell (p := ⟨b, o, none⟩) hl).trans hc
  have HC := Lib.hid hc1
  have HP := Lib.hid hp0
  have HL := Lib.hid hbel0
  have HS := Lib.hid hsz
  clear hb0 hp0 hbel0 hc1 hsz hc
  go_enter Try.func30, Try.ntmps30
  go_wp2_with (first
    | (go_at_call 47; refine (mul_calls z _ (by omega)).mono ?_; rintro e w' ⟨rfl, rfl⟩)
    | ((with_reducible refine pick (some 60) ?_); refine wpList_copy_part rfl _ _ _ _ rfl 5 Try.underlying38 HS.out w.heap.size z 0 1 0 z z ⟨b, o, none⟩ 1 c rfl rfl HP.out rfl (by omega) (by omega) (one_cell HC.out) ?_; intro W hpw hgw))
  have hbw := HL.out.grown hgw (by simp) (by intro k hk; injection hk with hk; omega)
  clear hgw
  go_loopw [10, 11] (fun i _ wr => ∃ k : Nat, 1 ≤ k ∧ k ≤ z ∧ i = .int .i64 k ∧ Part wr w.heap.size z k ∧ Below w.heap.size w wr) (fun i _ _ => z - (intOf i).toNat)
  case atStart => exact ⟨1, by omega, by omega, rfl, hpw, hbw⟩
  case round =>
    clear hpw hbw
    obtain ⟨k, hk1, hk2, rfl, hpk, hbk⟩ := hrel
    by_cases hlt : k < z
    · have hmin : min (k : Int) (z : Int) = (k : Int) := by omega
      have hmin' : min k z = k := by omega
      have HPK := Lib.hid hpk
      have HBK := Lib.hid hbk
      clear hpk hbk
      have v0 : ¬ z = k := by omega
      go_wp2_with fail
      obtain ⟨m, hm⟩ : ∃ m, m = min k (z - k) := ⟨_, rfl⟩
      have hm1 : 1 ≤ m := by omega
      have hm2 : k + m ≤ z := by omega
      have HM := Lib.hid hm
      clear hm
      have HPD : Hid (Part wr.drew w.heap.size z k) := HPK
      have u1 : (0 : Int) ≤ (k : Int) := by omega
      have u2 : (k : Int) ≤ (z : Int) := by omega
      have v1 : IntKind.i64.wrap ((k : Int) + (m : Int)) = (k : Int) + (m : Int) := IntWalk.i64_in _ (by omega)
      go_region_law ((refine step_copy_part rfl (.tmp 70) (.tmp 73) _ _ rfl 5 Try.underlying38 HS.out w.heap.size z k m k (z - k) (z - k) ⟨w.heap.size, 0, none⟩ k z (by simp [Act.eval, Act.put]) (by simp [Act.eval, Act.put]) HPD.out rfl HM.out hm2 (HPD.out.cells m (by have := HM.out; omega)) ?_; intro w2 hp2 hg2))
      clear v1
      have hb2 : Below w.heap.size w w2 := (HBK.out).drew.grown hg2 HBK.out.size (by intro k hk; injection hk with hk; omega)
      have HP2 := Lib.hid hp2
      have HB2 := Lib.hid hb2
      clear hp2 hg2 hb2
      go_wp2
      go_roundw
      case rel => exact ⟨.int .i64 ((k : Int) + (m : Int)), _, _, _, _, _, _, _, _, _, _, _, _, _, _, _, _, ⟨k + m, by omega, by omega, by go_num, HP2.out, HB2.out⟩, rfl⟩
      case measure =>
        show z - (intOf (Value.int .i64 ((k : Int) + (m : Int)))).toNat < z - (intOf (Value.int .i64 (k : Int))).toNat
        simp [intOf]
        omega
    · obtain rfl : k = z := by omega
      go_wp2
      go_ret
      obtain ⟨cap, ho⟩ := hpk.done (Nat.le_refl w.heap.size)
      exact ⟨_, cap, rfl, ho, hbk⟩
end Go.Proofs.Ytdcmpkohengnaaa.NorN
