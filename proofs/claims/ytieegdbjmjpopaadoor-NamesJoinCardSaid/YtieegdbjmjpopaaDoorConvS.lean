/- Bytes made of a string that is a variable, and an append to them: wherever the room goes. -/
import Derived.Test.YtieegdbjmjpopaaDoorByteS
import Derived.Laws.IdiomStrings
import Derived.ArgAppend
import Derived.Deep.AppendLies
namespace Go.Proofs.YtieegdbjmjpopaaDoor.ConvS
set_option linter.unusedVariables false
open Go.RowKit
open Go.Proofs.YtieegdbjmjpopaaDoor.Byte

/-- A new row of bytes, behind which there may be room: nothing is frozen. -/
structure Fresh (w : World) (base g n cap : Nat) (xs : List Int) : Prop where
  bs : Bs w (some ⟨g, 0, none⟩) n xs
  fit : n ≤ cap
  at_ : base ≤ g
  room : ∀ j, j < cap → (w.cell? ⟨g, j, none⟩).isSome = true ∧ w.frozen? ⟨g, j, none⟩ = false
section
variable {P : Program} {w w' : World} {base g n cap : Nat} {xs : List Int}
theorem Fresh.below (h : Fresh w base g n cap xs) (hb : Below w.heap.size w w') : Fresh w' base g n cap xs := by
  refine ⟨h.bs.below hb, h.fit, h.at_, fun j hj => ?_⟩
  obtain ⟨h1, h2⟩ := h.room j hj
  obtain ⟨v, hv⟩ := Option.isSome_iff_exists.1 h1
  have hlt := World.block_lt_of_cell? w ⟨g, j, none⟩ hv
  refine ⟨by rw [(hb.cell (p := ⟨g, j, none⟩) hlt), hv]; rfl, ?_⟩
  rw [hb.frozen (p := ⟨g, j, none⟩) hlt, h2]
theorem conv_fresh (w : World) (src dst e : TypeId) (xs : List Int) (n : Nat) (hl : xs.length = n) (hx : ∀ x ∈ xs, 0 ≤ x ∧ x ≤ 255) (hs : P.underlying src = some .string) (hd : P.underlying dst = some (.slice e)) (he : P.underlying e = some (.int .u8)) :
    ∃ cap w', (convert src dst (.string (str xs))).run P w = .ok (.slice (some ⟨w.heap.size, 0, none⟩) n cap) w' ∧ Fresh w' w.heap.size w.heap.size n cap xs ∧ Below w.heap.size w w' := by
  have hsz : (str xs).size = n := by rw [str_size, hl]
  have hr := run_bytes_of_string (P := P) w src dst e (str xs) hs hd he
  have hge := grownCap_ge w (str xs).size 0 e
  generalize grownCap w (str xs).size 0 e = cap at hr hge
  rw [hsz] at hr hge
  have hrow : (bytesRow (str xs) cap).size = cap := by
    unfold bytesRow
    have : (str xs).data.size = n := hsz
    simp [this, hsz]
    omega
  have hcell : ∀ j, j < n → (bytesRow (str xs) cap)[j]? = some (.int .u8 (xs.getD j 0)) := fun j hj => by
    have h1 : j < (str xs).data.size := by rw [show (str xs).data.size = n from hsz]; exact hj
    have hj' : j < xs.length := by omega
    unfold bytesRow
    rw [Array.getElem?_append_left (by simpa using h1), Array.getElem?_map, Array.getElem?_eq_getElem h1, Option.map_some]
    have hb := hx _ (List.getElem_mem hj')
    have h2 : (str xs).data[j] = UInt8.ofNat (xs[j]).toNat := by simp [str]
    rw [h2, List.getD_eq_getElem?_getD, List.getElem?_eq_getElem hj', Option.getD_some]
    congr 2
    rw [UInt8.toNat_ofNat']
    omega
  refine ⟨cap, _, hr, ?_, ((Below.refl _ _).drew).alloc (Nat.le_refl _) _⟩
  have hh : (w.drew.alloc (.cells (bytesRow (str xs) cap) e ((bytesRow (str xs) cap).size, (bytesRow (str xs) cap).size + 1))).heap[w.heap.size]? = some (.cells (bytesRow (str xs) cap) e ((bytesRow (str xs) cap).size, (bytesRow (str xs) cap).size + 1)) := heap_alloc_new w.drew _
  refine ⟨⟨hl, hx, fun k hk => ⟨w.heap.size, 0, rfl, ?_, ?_⟩⟩, hge, Nat.le_refl _, fun j hj => ⟨?_, ?_⟩⟩
  · rcases Nat.lt_or_ge w.heap.size (w.drew.alloc (.cells (bytesRow (str xs) cap) e ((bytesRow (str xs) cap).size, (bytesRow (str xs) cap).size + 1))).heap.size with h | h
    · exact h
    · rw [Array.getElem?_eq_none h] at hh
      cases hh
  · rw [Nat.zero_add, cell_of_row _ _ _ _ _ _ hh]
    exact hcell k hk
  · rw [cell_of_row _ _ _ _ _ _ hh, Array.getElem?_eq_getElem (by rw [hrow]; exact hj)]
    rfl
  · unfold World.frozen?
    rw [hh]
    simp [hrow]
    omega
/-- A conversion whose run is known. -/
theorem wpList_conv {ops : Array Oper} {rest : List Oper} {o : Oper} {a : Act} {Q : Exit → Act → World → Prop} (hgd : o.guard = none) (s t : TypeId) (x : Operand) (ho : o.op = .convert s t x) (u v : Value) (hx : a.eval x = u) (hr : (convert s t u).run P w = .ok v w') (h : wpList P ops Q rest (a.put o.dst v) w') : wpList P ops Q (o :: rest) a w := by
  refine wpList_plain hgd fun K hK => ?_
  unfold Oper.wp execOp
  simp only [ho, hx, Sem.run_bind, hr, Result.andThen_ok, Sem.run_pure]
  exact hK _ _ h
/-- append of bytes to such a row. -/
theorem wpList_append_fresh {ops : Array Oper} {rest : List Oper} {o : Oper} {a : Act} {Q : Exit → Act → World → Prop} (hgd : o.guard = none) (s x : Operand) (t : TypeId)
    (ho : o.op = .call { callee := .builtin .append, args := #[s, x], argTypes := #[t, t] }) (e : TypeId) (ht : P.underlying t = some (.slice e)) (hinfo : (P.info? e).map (fun i => (i.zero, i.size, i.bytes)) = some (some (.int .u8 0), 1, 1))
    (base g n cap : Nat) (xs : List Int) (hs : a.eval s = .slice (some ⟨g, 0, none⟩) n cap) (hf : Fresh w base g n cap xs)
    (g2 m c : Nat) (ys : List Int) (hx : a.eval x = .slice (some ⟨g2, 0, none⟩) m c) (hr : Bs w (some ⟨g2, 0, none⟩) m ys) (hsmall : n + m ≤ 100000) (hbase : base ≤ w.heap.size)
    (N : Nat) (hN : n + m = N) (zs : List Int) (hzs : xs ++ ys = zs)
    (h : ∀ g' cap' w', Bs w' (some ⟨g', 0, none⟩) N zs → N ≤ cap' → Below base w w' → (0 < N → wpList P ops Q rest (a.put o.dst (.slice (some ⟨g', 0, none⟩) N cap')) w')) (hn0 : 0 < N) :
    wpList P ops Q (o :: rest) a w := by
  obtain ⟨i, hi, hz0, hz1, hz2⟩ := info_parts hinfo
  subst hN
  subst hzs
  have hlx : (xs.map (Value.int .u8)).length = n := by rw [List.length_map, hf.bs.len]
  have hly : (ys.map (Value.int .u8)).length = m := by rw [List.length_map, hr.len]
  have hmax : n + m ≤ maxLen := by unfold maxLen; omega
  have hcx : ∀ j u, (xs.map (Value.int .u8))[j]? = some u → w.cell? ⟨g, 0 + j, none⟩ = some u := fun j u hu => by
    have hj : j < n := by rw [← hlx]; exact (List.getElem?_eq_some_iff.1 hu).1
    rw [hf.bs.at_ j hj, ← hu, List.getElem?_map, List.getElem?_eq_getElem (by rw [hf.bs.len]; exact hj), List.getD_eq_getElem?_getD, List.getElem?_eq_getElem (by rw [hf.bs.len]; exact hj)]
    rfl
  have hcy : ∀ j u, (ys.map (Value.int .u8))[j]? = some u → w.cell? ((⟨g2, 0, none⟩ : Addr).add j) = some u := fun j u hu => by
    have hj : j < m := by rw [← hly]; exact (List.getElem?_eq_some_iff.1 hu).1
    have e2 : (⟨g2, 0, none⟩ : Addr).add j = ⟨g2, 0 + j, none⟩ := by
      unfold Addr.add
      by_cases h0 : j = 0 <;> simp [h0]
    rw [e2, hr.at_ j hj, ← hu, List.getElem?_map, List.getElem?_eq_getElem (by rw [hr.len]; exact hj), List.getD_eq_getElem?_getD, List.getElem?_eq_getElem (by rw [hr.len]; exact hj)]
    rfl
  have hbd : ∀ y ∈ xs ++ ys, 0 ≤ y ∧ y ≤ 255 := fun y hy => (List.mem_append.1 hy).elim (hf.bs.2.1 y) (hr.2.1 y)
  have hlen : (xs ++ ys).length = n + m := by rw [List.length_append, hf.bs.len, hr.len]
  refine wpList_append_arg w hgd s x t ho e i _ 1 1 ht hi hz0 hz1 hz2 rfl (by omega) g 0 n cap (xs.map (Value.int .u8)) hs (by rw [hlx, Nat.mul_one]) hcx ⟨g2, 0, none⟩ m c (ys.map (Value.int .u8)) hx (by rw [hly, Nat.mul_one]) hcy (fun u hu => by obtain ⟨_, _, rfl⟩ := List.mem_map.1 hu; rfl)
    (fun hfit j hj => by
      rw [hly] at hj
      have := hf.room (n + j) (by omega)
      rw [Nat.zero_add, Nat.mul_one]
      exact this) hmax (by omega) (fun hfit => ?_) (fun hgr v' w' hown hgrow => ?_)
  · rw [Nat.zero_add, Nat.mul_one]
    have hthere : ∀ j, j < (ys.map (Value.int .u8)).length → (w.cell? ⟨g, n + j, none⟩).isSome = true := fun j hj => (hf.room (n + j) (by rw [hly] at hj; omega)).1
    refine h g cap _ ⟨hlen, hbd, fun k hk => ?_⟩ hfit ((Below.refl _ _).grown (grown_setCells g _ n w) hbase (by intro q hq; injection hq with hq; have := hf.at_; omega)) hn0
    have hlt : g < (w.setCells g n (ys.map (Value.int .u8))).heap.size := by
      have h1 := (grown_setCells g (ys.map (Value.int .u8)) n w).size
      obtain ⟨u, hu⟩ := Option.isSome_iff_exists.1 (hf.room k (by omega)).1
      have h2 := World.block_lt_of_cell? w ⟨g, k, none⟩ hu
      exact Nat.lt_of_lt_of_le h2 h1
    refine ⟨g, 0, rfl, hlt, ?_⟩
    rw [Nat.zero_add]
    rcases Nat.lt_or_ge k n with hkn | hkn
    · rw [World.cell?_setCells_out g _ n w ⟨g, k, none⟩ (fun _ _ => .inl hkn)]
      have h3 := hf.bs.at_ k hkn
      rw [Nat.zero_add] at h3
      rw [h3, List.getD_eq_getElem?_getD, List.getD_eq_getElem?_getD, List.getElem?_append_left (by rw [hf.bs.len]; exact hkn)]
    · obtain ⟨q, rfl⟩ : ∃ q, k = n + q := ⟨k - n, by omega⟩
      have hq : q < m := by omega
      rw [World.cell?_setCells_in g _ n w hthere q (by rw [hly]; exact hq), List.getElem_map, List.getD_eq_getElem?_getD, List.getElem?_append_right (by rw [hf.bs.len]; omega), hf.bs.len, Nat.add_sub_cancel_left, List.getElem?_eq_getElem (by rw [hr.len]; exact hq)]
      rfl
  · obtain ⟨g', cap', rfl, _, _⟩ := hown.form hn0
    have hO : Ob w' w.heap.size e g' (n + m) cap' (xs ++ ys) := ⟨hlen, hbd, by rw [List.map_append]; exact hown⟩
    exact h g' cap' w' hO.bs hO.capLe ((Below.refl _ _).grown hgrow hbase (by intro q hq; cases hq)) hn0
end
end Go.Proofs.YtieegdbjmjpopaaDoor.ConvS
