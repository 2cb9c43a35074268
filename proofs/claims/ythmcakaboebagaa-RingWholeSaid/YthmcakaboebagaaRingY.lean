/- The project's rings: found items' numbers, in a map by their rings. -/
import Derived.Maps.OwnRows
import Derived.Maps.GroupsBeside
import Derived.Maps.Views
import Derived.Maps.RangeWalk
import Derived.Deep.RegionLaw
import Derived.Deep.AppendLies
import Derived.BigRegion
import Derived.Test.YthmcakaboebagaaRingA
namespace Go.Proofs.Ythmcakaboebagaa.RingY
set_option linter.unusedVariables false
set_option linter.unusedSimpArgs false
open Go.RowKit Go.Maps Go.ChangeShapes
open Go.WideElems (Fit rd rg pl rd_val)
open Go.Proofs.Ythmcakaboebagaa.Byte Go.Proofs.Ythmcakaboebagaa.RingM Go.Proofs.Ythmcakaboebagaa.RingN Go.Proofs.Ythmcakaboebagaa.RingC Go.Proofs.Ythmcakaboebagaa.RingK Go.Proofs.Ythmcakaboebagaa.RingF Go.Proofs.Ythmcakaboebagaa.RingS Go.Proofs.Ythmcakaboebagaa.RingU Go.Proofs.Ythmcakaboebagaa.RingJ Go.Proofs.Ythmcakaboebagaa.RingA Go.Proofs.Ythmcakaboebagaa.Own
attribute [local go_sem] Own.run_store_complex

/-- A look-up in one map gives one value, whatever else lies in the world. -/
theorem look_all {H : Type} {P : Program} {k e t : TypeId} {R : Value → Option (DataW H × List MemPlace)} {es : Array MapEntry} {clock b : Nat} (K : Keyed P k) (ht : P.underlying t = some (.map k e)) {z : Value} (hz : ∀ w, (zeroValue e).run P w = .ok z w)
    (F : Fit P k R es clock) {key : Value} {kl : Lit} (hkey : keyOf P k key = some kl) {w : World} (hb : w.heap[b]? = some (.map es clock)) {u : Value} (hu : (Instr.lookup t (.map (some b)) key false).run P w = .ok u w)
    (W : World) (hW : W.heap[b]? = some (.map es clock)) : (Instr.lookup t (.map (some b)) key false).run P W = .ok u W := by
  have hn : es.toList.Pairwise (fun x y => x.key ≠ y.key) := ((MapKept.stamped_iff es clock).1 F.stamped).2.2
  rcases Maps.fit_look false K ht (hz w) hb F hkey with ⟨r1, n1, _⟩ | ⟨e1, y1, m1, k1, r1, _⟩ <;> rcases Maps.fit_look false K ht (hz W) hW F hkey with ⟨r2, n2, _⟩ | ⟨e2, y2, m2, k2, r2, _⟩
  · rw [r1] at hu
    injection hu with hu
    rw [r2, hu]
  · exact absurd k2 (n1 e2 m2)
  · exact absurd k1 (n2 e1 m1)
  · rw [r1] at hu
    injection hu with hu
    rw [r2, ← hu]
    have e : e1 = e2 := by
      obtain ⟨i, hi⟩ := List.mem_iff_getElem?.1 m1
      obtain ⟨j, hj⟩ := List.mem_iff_getElem?.1 m2
      obtain ⟨hi1, hi2⟩ := List.getElem?_eq_some_iff.1 hi
      obtain ⟨hj1, hj2⟩ := List.getElem?_eq_some_iff.1 hj
      rcases Nat.lt_trichotomy i j with h | h | h
      · exact absurd (k1.trans k2.symm) (by rw [← hi2, ← hj2]; exact List.pairwise_iff_getElem.1 hn i j hi1 hj1 h)
      · subst h
        rw [hi] at hj
        injection hj
      · exact absurd (k2.trans k1.symm) (by rw [← hi2, ← hj2]; exact List.pairwise_iff_getElem.1 hn j i hj1 hi1 h)
    rw [e]
/-- The numbers, below k, of the items of a ring. -/
def mem (L : List Fnd) (k : Nat) (s : Int) : List Int := ((List.range k).filter (fun j => decide ((fn L j).item.seq = s))).map (fun j : Nat => (j : Int))
theorem mem_hit (L : List Fnd) (k : Nat) : mem L (k + 1) (fn L k).item.seq = mem L k (fn L k).item.seq ++ [(k : Int)] := by
  unfold mem
  rw [List.range_succ, List.filter_append]
  simp
theorem mem_miss (L : List Fnd) (k : Nat) (s : Int) (h : (fn L k).item.seq ≠ s) : mem L (k + 1) s = mem L k s := by
  unfold mem
  rw [List.range_succ, List.filter_append]
  simp [h]
def dat (zs : List Int) : DataW Unit := if zs = [] then .nil else .slice (lits .i64 zs) []
abbrev wfs (s : Int) : Prop := 0 ≤ s ∧ s ≤ 18446744073709551615
/-- The map behind k rounds. -/
structure Grp (L : List Fnd) (k : Nat) (D : DataW Unit) : Prop where
  map : IsMap D
  at_ : ∀ s, wfs s → D.atKey (.int .u64 s) .nil = dat (mem L k s)
  has : ∀ s, wfs s → (Maps.has D (.int .u64 s) = true ↔ mem L k s ≠ [])
theorem Grp.start (L : List Fnd) : Grp L 0 (.map []) := ⟨isMap_empty, fun s _ => rfl, fun s _ => by simp [Maps.has, mem]⟩
theorem lits_inj {zs ys : List Int} (h : (lits .i64 zs : List (DataW Unit)) = lits .i64 ys) : zs = ys := by
  unfold lits at h
  exact (List.map_inj_right (fun a b hab => by cases hab; rfl)).1 h
theorem Grp.owned {L : List Fnd} {k : Nat} {D : DataW Unit} {w : World} {base : Nat} {e : TypeId} {v : Value} {zs : List Int} {s : Int} (h : Grp L k D) (hs : wfs s) (ho : w.ownsInts base e .i64 v zs) (hat : D.atKey (.int .u64 s) .nil = rowDatum .i64 v zs) : zs = mem L k s := by
  rw [h.at_ s hs] at hat
  unfold dat at hat
  rcases ho.datum (H := Unit) with ⟨h1, rfl⟩ | h1
  · rw [h1] at hat
    split at hat
    · exact (by assumption : mem L k s = []).symm
    · cases hat
  · rw [h1] at hat
    split at hat
    · cases hat
    · injection hat with hat
      exact (lits_inj hat).symm
theorem Grp.step {L : List Fnd} {k : Nat} {D : DataW Unit} (h : Grp L k D) (hs : wfs (fn L k).item.seq) : Grp L (k + 1) (D.put (.int .u64 (fn L k).item.seq) (.slice (lits .i64 (mem L k (fn L k).item.seq ++ [(k : Int)])) [])) := by
  refine ⟨h.map.put _ _, fun s hs' => ?_, fun s hs' => ?_⟩
  · by_cases e : (fn L k).item.seq = s
    · subst e
      rw [Maps.atKey_put_same h.map (show WideAt.IsKeyLit (.int .u64 (fn L k).item.seq) from trivial), mem_hit]
      unfold dat
      rw [if_neg (by simp)]
    · rw [Maps.atKey_put_other (by intro e2; injection e2 with _ e2; exact e e2.symm), mem_miss L k s e]
      exact h.at_ s hs'
  · by_cases e : (fn L k).item.seq = s
    · subst e
      rw [Maps.has_put_same h.map (show WideAt.IsKeyLit (.int .u64 (fn L k).item.seq) from trivial), mem_hit]
      simp
    · rw [Maps.has_put_other (by intro e2; injection e2 with _ e2; exact e e2.symm), mem_miss L k s e]
      exact h.has s hs'
theorem law : Keyed Try.prog 25 := int_keyed Try.underlying25
theorem zeroS (w : World) : (zeroValue 57).run Try.prog w = .ok (.slice none 0 0) w := by kernel_rfl
theorem info_fnd : (Try.prog.info? 35).map (·.size) = some 11 := by kernel_rfl
def RingsE (L : List Fnd) (n : Nat) (w : World) (e : Ending) (w' : World) : Prop :=
  ∃ D : DataW Unit, e = .returned (.map (some w.heap.size)) ∧ w'.ownsGroups Try.prog 25 (w.heap.size + 1) 3 .i64 w.heap.size n D ∧ Grp L n D ∧ Below w.heap.size w w'
set_option maxRecDepth 100000 in
set_option maxHeartbeats 4000000 in
theorem rings_calls (A : Option Addr) (L : List Fnd) (n c : Nat) (w : World) (hn : n ≤ 100000) (hF : FsAt w A n L) (hwf : ∀ x ∈ L, wfs x.item.seq) : Calls Try.prog 18 #[.slice A n c] w (RingsE L n w) := by
  have hmm := @run_makeMap Try.prog
  obtain ⟨i0, hi, hz0, hz1, hz2⟩ := info_parts info_int
  have HF := Lib.hid hF
  have HW := Lib.hid hwf
  clear hF hwf
  go_enter Try.func18, Try.ntmps18
  go_wp2_with fail
  go_loopw [9] (fun i wr => ∃ (k : Nat) (D : DataW Unit), k ≤ n ∧ i = .int .i64 k ∧ wr.ownsGroups Try.prog 25 (w.heap.size + 1) 3 .i64 w.heap.size k D ∧ Hid (Grp L k D) ∧ Below w.heap.size w wr ∧ w.heap.size + 1 ≤ wr.heap.size) (fun i _ => n - (intOf i).toNat)
  case atStart => exact ⟨0, .map [], Nat.zero_le _, rfl, World.ownsGroups_made _ _ _ _ _, Lib.hid (Grp.start L), (Below.refl _ _).alloc (Nat.le_refl _) _, by simp⟩
  case round =>
    obtain ⟨k, D, hk, rfl, hown, HG, hbel, hws⟩ := hrel
    have HO := Lib.hid hown
    have HBL := Lib.hid hbel
    clear hown
    by_cases hlt : k < n
    · have hxl : k < L.length := by rw [HF.out.1]; exact hlt
      have ex : L[k]? = some (fn L k) := by unfold fn; rw [List.getElem?_eq_getElem hxl]; rfl
      obtain ⟨b, o, rfl, hbr, rx⟩ := (HF.out.below hbel).2 k _ ex
      have hseq := HW.out (fn L k) (List.mem_of_getElem? ex)
      have HGS := Lib.hid (HG.out.step hseq)
      have HGO := Lib.hid (fun (u : World) (v : Value) (zs : List Int) (ho : u.ownsInts (w.heap.size + 1) 3 .i64 v zs) (hat : D.atKey (.int .u64 (fn L k).item.seq) .nil = rowDatum .i64 v zs) => HG.out.owned hseq ho hat)
      obtain ⟨f, hf⟩ : ∃ f, fn L k = f := ⟨_, rfl⟩
      rw [hf] at rx HGS hseq HGO
      obtain ⟨fre, fim, fsz, fst, ⟨seq, ver, index, count, re, im, gone, key, value⟩⟩ := f
      dsimp only at HGS hseq HGO
      have HRX : Hid (wr.rangeAt b (o + k * 11) [.complex .f64 fre fim, .int .i64 fsz, .bool fst, .int .u64 seq, .int .u64 ver, .int .i64 index, .int .i64 count, .complex .f64 re im, .bool gone, .string key, .string value]) := Lib.hid rx
      have hkey := keyOf_int_mk (P := Try.prog) Try.underlying25 (WalkArith.wf_u64 hseq)
      have HKEY := Lib.hid hkey
      have HSQ := Lib.hid hseq
      clear rx hf ex hxl hkey hseq hbel
      go_wp2_with ((with_reducible refine pick (some 13) ?_); refine wpList_load_mid rfl 35 _ rfl b (o + k * 11) rfl [.complex .f64 fre fim, .int .i64 fsz, .bool fst, .int .u64 seq, .int .u64 ver, .int .i64 index, .int .i64 count, .complex .f64 re im, .bool gone, .string key, .string value] _ HRX.out Try.underlying35 rfl info_fnd ?_)
      obtain ⟨V, hV⟩ : ∃ V, wr.alloc (.cells #[.complex .f64 fre fim, .int .i64 fsz, .bool fst, .int .u64 seq, .int .u64 ver, .int .i64 index, .int .i64 count, .complex .f64 re im, .bool gone, .string key, .string value] 35) = V := ⟨_, rfl⟩
      have hA : Blk V wr.heap.size #[.complex .f64 fre fim, .int .i64 fsz, .bool fst, .int .u64 seq, .int .u64 ver, .int .i64 index, .int .i64 count, .complex .f64 re im, .bool gone, .string key, .string value] 35 := by rw [← hV]; exact Blk.new_ _ _ _
      have hWB : Below wr.heap.size wr V := by rw [← hV]; exact (Below.refl _ _).alloc (Nat.le_refl _) _
      have hownV : V.ownsGroups Try.prog 25 (w.heap.size + 1) 3 .i64 w.heap.size k D := by
        rw [← hV]
        exact HO.out.kept (World.grownBy_alloc _ _ none) (by simp) (fun _ _ _ x _ => by cases x.val.ownBlock <;> simp)
      change Code.wp _ _ _ _ (wr.alloc (.cells #[.complex .f64 fre fim, .int .i64 fsz, .bool fst, .int .u64 seq, .int .u64 ver, .int .i64 index, .int .i64 count, .complex .f64 re im, .bool gone, .string key, .string value] 35))
      rw [hV]
      have HBV := Lib.hid (keeps HBL.out hWB)
      have hVs := HBV.out.size
      have hVw := hWB.size
      have a3 : V.cell? ⟨wr.heap.size, 3, none⟩ = some (.int .u64 seq) := hA.cell 3
      have a3' : (V.alloc (.cells #[.int .i64 k] 3)).cell? ⟨wr.heap.size, 3, none⟩ = some (.int .u64 seq) := (hA.alloc _).cell 3
      have hltV := hA.lt
      obtain ⟨v, zs, hrun, hat, hoi, hzl, hback⟩ := hownV.at law Try.underlying55 (zeroS V) (by unfold maxLen; omega) HKEY.out
      obtain ⟨es, clock, hb, F, _, _, hbb, _, _⟩ := hownV
      have hlk := look_all law Try.underlying55 zeroS F HKEY.out hb hrun
      have hblt : w.heap.size < V.heap.size := by omega
      have hbA : (V.alloc (.cells #[.int .i64 k] 3)).heap[w.heap.size]? = some (.map es clock) := (Below.heap_alloc V _ _ hblt).trans hb
      have l1 := hlk V.drew hb
      have l2 := hlk (V.alloc (.cells #[.int .i64 k] 3)).drew hbA
      have l3 := hlk (V.alloc (.cells #[.int .i64 k] 3)) hbA
      have l4 := hrun
      have HZ := Lib.hid (HGO.out V v zs hoi hat)
      have HOI := Lib.hid hoi
      have HBACK := Lib.hid hback
      have ag : v.ownBlock ≠ some wr.heap.size := by
        intro e
        rcases hoi.1.2 with ⟨h1, _⟩ | ⟨g, cap, cur, h1, _, hg, _⟩
        · rw [h1] at e
          cases e
        · rw [h1] at e
          simp [Value.ownBlock] at e
          subst e
          rw [show V.heap[wr.heap.size]? = _ from hA] at hg
          cases hg
      have HN : Hid (∀ (w3 : World) (gg cap : Nat), w3.ownsRow (w.heap.size + 1) 3 1 (.slice (some ⟨gg, 0, none⟩) (zs.length + 1) cap) (zs.length + 1) (zs.map (Value.int .i64) ++ [.int .i64 k]) → (V.alloc (.cells #[.int .i64 k] 3)).drew.grownBy w3 v.ownBlock → (v.ownBlock = some gg ∨ gg = V.heap.size + 1) →
          w3.cell? ⟨wr.heap.size, 3, none⟩ = some (.int .u64 seq) ∧ ∃ w4, (Instr.mapUpdate 55 (.map (some w.heap.size)) (.int .u64 seq) (.slice (some ⟨gg, 0, none⟩) (zs.length + 1) cap)).run Try.prog w3 = .ok () w4 ∧
            (w4.ownsGroups Try.prog 25 (w.heap.size + 1) 3 .i64 w.heap.size (k + 1) (D.put (.int .u64 seq) (.slice (lits .i64 (mem L k seq ++ [(k : Int)])) [])) ∧ Below w.heap.size w w4 ∧ w.heap.size + 1 ≤ w4.heap.size)) := Lib.hid (by
        intro w3 gg cap hown3 hgrow hat3
        have hall : V.grownBy w3 v.ownBlock := ((World.grownBy_alloc V (.cells #[.int .i64 k] 3) v.ownBlock).trans (show (V.alloc (.cells #[.int .i64 k] 3)).grownBy (V.alloc (.cells #[.int .i64 k] 3)).drew v.ownBlock from ⟨rfl, rfl, rfl, Nat.le_refl _, fun _ _ _ => rfl⟩)).trans hgrow
        obtain ⟨w4, hrun4, hown4, hgrow4⟩ := HBACK.out w3 (.slice (some ⟨gg, 0, none⟩) (zs.length + 1) cap) (zs ++ [(k : Int)]) hall (HOI.out.appended hown3 (WalkArith.wf_i64 (by omega))) (by simp; omega) (hat3.imp (fun h => h.symm) (fun h => ⟨gg, rfl, by omega⟩))
        have e4 : rowDatum (H := Unit) .i64 (.slice (some ⟨gg, 0, none⟩) (zs.length + 1) cap) (zs ++ [(k : Int)]) = .slice (lits .i64 (mem L k seq ++ [(k : Int)])) [] := by rw [← HZ.out]; rfl
        rw [e4] at hown4
        have hs1 := hall.size
        have hs2 := hgrow4.size
        have c3 : w3.cell? ⟨wr.heap.size, 3, none⟩ = some (.int .u64 seq) := (hall.cell_far _ hltV (Ne.symm ag)).trans a3
        exact ⟨c3, w4, hrun4, hown4, HBV.out.groups HOI.out hall hgrow4 HBV.out.size (Nat.le_succ _) (Nat.le_refl _), by omega⟩)
      clear hV hA hWB hrun hat hoi hback hb F hbb hlk hbA HBACK ag
      go_region_law (refine step_append_lies _ (by rfl) _ _ _ (by rfl) (w.heap.size + 1) 3 i0 _ 1 8 Try.underlying57 hi hz0 hz1 hz2 rfl (by omega) v zs.length _ (by rfl) ((HOI.out.1.alloc _).drew) ⟨V.heap.size, 0, none⟩ 1 1 [.int .i64 k] (by rfl) (by rfl) (World.news_of_block (cs := #[.int .i64 k]) (t := 3) (fr := (0, 0)) (heap_alloc_new V _)) (by simp [Value.oneCell']) (by omega) (by unfold maxLen; omega) (by omega) (by simp; omega) (V.heap.size + 1) (by simp) ?_; intro gg cap w3 hown3 hgrow hat3 hlt3; obtain ⟨c33, w4, hrun4, hn4⟩ := HN.out w3 gg cap hown3 hgrow hat3; have HN4 := Lib.hid hn4; clear hn4)
      all_goals
        clear hrun4 c33 hown3 hgrow hat3 hlt3 l1 l2 l3 l4
        have hs4 := HN4.out.2.2
        go_wp2_with fail
        go_roundw
        case rel => exact ⟨k + 1, _, by omega, by go_num, HN4.out.1, HGS, HN4.out.2.1, hs4⟩
        case measure => simp [intOf]; omega
    · obtain rfl : k = n := by omega
      clear hbel
      go_wp2_with fail
      go_ret
      exact ⟨D, rfl, HO.out, HG.out, HBL.out⟩
end Go.Proofs.Ythmcakaboebagaa.RingY
