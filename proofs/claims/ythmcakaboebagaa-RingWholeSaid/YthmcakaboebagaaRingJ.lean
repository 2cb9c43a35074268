/- slices.SortFunc and SortedFunc at ints, by the project's comparison of two found items' indexes. -/
import Derived.Shelf.SlSortCmp.Whole1
import Derived.Test.YthmcakaboebagaaRingU
import Derived.Test.YthmcakaboebagaaRingS
import Derived.Deep.QuietTactic
import Derived.BigQuiet
namespace Go.Proofs.Ythmcakaboebagaa.RingJ
set_option linter.unusedVariables false
set_option linter.unusedSimpArgs false
open Go.RowKit Go.Shelf
open Go.Proofs.Ythmcakaboebagaa.Byte Go.Proofs.Ythmcakaboebagaa.RingM Go.Proofs.Ythmcakaboebagaa.RingC Go.Proofs.Ythmcakaboebagaa.RingK Go.Proofs.Ythmcakaboebagaa.RingF Go.Proofs.Ythmcakaboebagaa.RingS Go.Proofs.Ythmcakaboebagaa.RingU Go.Proofs.Ythmcakaboebagaa.Own

def sortL_ren : Go.Shelf.Ren := ⟨fun | 6 => 34 | 15 => 41 | 14 => 40 | 28 => 52 | 29 => 53 | 20 => 44 | 21 => 45 | 22 => 46 | 23 => 47 | 24 => 48 | 25 => 49 | 26 => 50 | 27 => 51 | 46 => 57 | 47 => 58 | 48 => 59 | 49 => 60 | 50 => 61 | 57 => 65 | n => n, fun | 22 => 57 | 24 => 3 | 25 => 61 | 3 => 3 | 39 => 83 | 0 => 0 | 53 => 93 | 55 => 25 | 4 => 4 | 46 => 86 | 45 => 85 | 50 => 90 | 5 => 5 | 9 => 9 | 66 => 98 | 70 => 102 | 76 => 105 | 77 => 106 | n => n, fun | n => n⟩
theorem sortL : Go.Proofs.SlLaysF.n6 Try.prog sortL_ren := {
  mixed := by kernel_rfl,
  f6 := ⟨Try.f34.name, by decide, Try.func34.trans (congrArg some (by kernel_rfl))⟩,
  f14 := ⟨Try.f40.name, by decide, Try.func40.trans (congrArg some (by kernel_rfl))⟩,
  f15 := Try.func41.trans (congrArg some (by kernel_rfl)),
  f20 := ⟨Try.f44.name, by decide, Try.func44.trans (congrArg some (by kernel_rfl))⟩,
  f21 := ⟨Try.f45.name, by decide, Try.func45.trans (congrArg some (by kernel_rfl))⟩,
  f22 := ⟨Try.f46.name, by decide, Try.func46.trans (congrArg some (by kernel_rfl))⟩,
  f23 := ⟨Try.f47.name, by decide, Try.func47.trans (congrArg some (by kernel_rfl))⟩,
  f24 := ⟨Try.f48.name, by decide, Try.func48.trans (congrArg some (by kernel_rfl))⟩,
  f25 := ⟨Try.f49.name, by decide, Try.func49.trans (congrArg some (by kernel_rfl))⟩,
  f26 := ⟨Try.f50.name, by decide, Try.func50.trans (congrArg some (by kernel_rfl))⟩,
  f27 := ⟨Try.f51.name, by decide, Try.func51.trans (congrArg some (by kernel_rfl))⟩,
  f28 := Try.func52.trans (congrArg some (by kernel_rfl)),
  f29 := Try.func53.trans (congrArg some (by kernel_rfl)),
  f46 := ⟨Try.f57.name, by decide, Try.func57.trans (congrArg some (by kernel_rfl))⟩,
  f47 := Try.func58.trans (congrArg some (by kernel_rfl)),
  f48 := Try.func59.trans (congrArg some (by kernel_rfl)),
  f49 := ⟨Try.f60.name, by decide, Try.func60.trans (congrArg some (by kernel_rfl))⟩,
  f50 := ⟨Try.f61.name, by decide, Try.func61.trans (congrArg some (by kernel_rfl))⟩,
  f57 := ⟨Try.f65.name, by decide, Try.func65.trans (congrArg some (by kernel_rfl))⟩,
  t0 := Try.underlying0,
  a0 := Try.isAgg0,
  z0 := Try.sizeOf0,
  v0 := Try.zeroValue0,
  t3 := Try.underlying3,
  a3 := Try.isAgg3,
  z3 := Try.sizeOf3,
  v3 := Try.zeroValue3,
  t4 := Try.underlying4,
  a4 := Try.isAgg4,
  z4 := Try.sizeOf4,
  v4 := Try.zeroValue4,
  t5 := Try.underlying5,
  a5 := Try.isAgg5,
  z5 := Try.sizeOf5,
  v5 := Try.zeroValue5,
  t9 := Try.underlying9,
  a9 := Try.isAgg9,
  z9 := Try.sizeOf9,
  v9 := Try.zeroValue9,
  t22 := Try.underlying57,
  a22 := Try.isAgg57,
  z22 := Try.sizeOf57,
  v22 := Try.zeroValue57,
  a24 := Try.isAgg3,
  z24 := Try.sizeOf3,
  t25 := Try.underlying61,
  a25 := Try.isAgg61,
  z25 := Try.sizeOf61,
  v25 := Try.zeroValue61,
  t39 := Try.underlying83,
  a39 := Try.isAgg83,
  z39 := Try.sizeOf83,
  v39 := Try.zeroValue83,
  t45 := Try.underlying85,
  a45 := Try.isAgg85,
  z45 := Try.sizeOf85,
  v45 := Try.zeroValue85,
  t46 := Try.underlying86,
  a46 := Try.isAgg86,
  z46 := Try.sizeOf86,
  v46 := Try.zeroValue86,
  t50 := Try.underlying90,
  a50 := Try.isAgg90,
  z50 := Try.sizeOf90,
  v50 := Try.zeroValue90,
  t53 := Try.underlying93,
  a53 := Try.isAgg93,
  z53 := Try.sizeOf93,
  v53 := Try.zeroValue93,
  t55 := Try.underlying25,
  a55 := Try.isAgg25,
  z55 := Try.sizeOf25,
  v55 := Try.zeroValue25,
  t66 := Try.underlying98,
  a66 := Try.isAgg98,
  z66 := Try.sizeOf98,
  v66 := Try.zeroValue98,
  t70 := Try.underlying102,
  a70 := Try.isAgg102,
  z70 := Try.sizeOf102,
  v70 := Try.zeroValue102,
  t76 := Try.underlying105,
  a76 := Try.isAgg105,
  z76 := Try.sizeOf105,
  v76 := Try.zeroValue105,
  t77 := Try.underlying106,
  a77 := Try.isAgg106,
  z77 := Try.sizeOf106,
  v77 := Try.zeroValue106 }
def c3 (a b : Int) : Int := if a < b then -1 else if a = b then 0 else 1
theorem c3_lt {a b : Int} (h : a < b) : c3 a b = -1 := by unfold c3; rw [if_pos h]
theorem c3_eq {a b : Int} (h : a = b) : c3 a b = 0 := by unfold c3; rw [if_neg (by omega), if_pos h]
theorem c3_gt {a b : Int} (h : b < a) : c3 a b = 1 := by unfold c3; rw [if_neg (by omega), if_neg (by omega)]
theorem c3_neg (a b : Int) : c3 a b < 0 ↔ a < b := by
  unfold c3
  split
  · omega
  · split <;> omega
set_option maxHeartbeats 400000 in
theorem cmp_calls (a b : Int) (w : World) : Calls Try.prog 30 #[.int .i64 a, .int .i64 b] w fun e w' => e = .returned (.int .i64 (c3 a b)) ∧ w = w' := by
  have h : a < b ∨ a = b ∨ b < a := by omega
  rcases h with h | rfl | h
  · have e := c3_lt h
    have E := Lib.hid e
    clear e
    have h2 : ¬ b < a := by omega
    go_enter Try.func30, Try.ntmps30
    go_wp2
    go_ret
    exact ⟨Byte.ret_int E.out.symm, rfl⟩
  · have e := c3_eq (rfl : a = a)
    have E := Lib.hid e
    clear e
    go_enter Try.func30, Try.ntmps30
    go_wp2
    go_ret
    exact ⟨Byte.ret_int E.out.symm, rfl⟩
  · have e := c3_gt h
    have E := Lib.hid e
    clear e
    have h2 : ¬ a < b := by omega
    go_enter Try.func30, Try.ntmps30
    go_wp2
    go_ret
    exact ⟨Byte.ret_int E.out.symm, rfl⟩

def ix (L : List Fnd) (i : Nat) : Int := ((L[i]?).map (·.item.index)).getD 0
theorem cmp_same (a b : Int) (w : World) : Calls Try.prog 30 #[.int .i64 a, .int .i64 b] w fun e w' => e = .returned (.int .i64 (c3 a b)) ∧ w' = w := (cmp_calls a b w).mono fun _ _ h => ⟨h.1, h.2.symm⟩
set_option maxRecDepth 100000 in
set_option maxHeartbeats 1000000 in
/-- The comparison of two found items' indexes. -/
theorem cmp_item (L : List Fnd) (n c b o bl x y : Nat) (hx : x < n) (hy : y < n) (v : World) (hn : n ≤ 100000) (hv : v.cell? ⟨bl, 0, none⟩ = some (.slice (some ⟨b, o, none⟩) n c)) (hF : FsAt v (some ⟨b, o, none⟩) n L) :
    Calls Try.prog 29 #[.int .i64 x, .int .i64 y, .pointer (some ⟨bl, 0, none⟩)] v fun e w' => e = .returned (.int .i64 (c3 (ix L x) (ix L y))) ∧ ∃ q, w' = v.drewN q := by
  have hlx : x < L.length := by rw [hF.1]; exact hx
  have hly : y < L.length := by rw [hF.1]; exact hy
  have ex : L[x]? = some L[x] := List.getElem?_eq_getElem hlx
  have ey : L[y]? = some L[y] := List.getElem?_eq_getElem hly
  have cx : v.cell? ⟨b, o + x * 11 + 5, none⟩ = some (.int .i64 (ix L x)) := by
    have := (hF.at_ x _ ex).2 5 (.int .i64 L[x].item.index) rfl
    rw [this]
    unfold ix
    rw [ex]
    rfl
  have cy : v.cell? ⟨b, o + y * 11 + 5, none⟩ = some (.int .i64 (ix L y)) := by
    have := (hF.at_ y _ ey).2 5 (.int .i64 L[y].item.index) rfl
    rw [this]
    unfold ix
    rw [ey]
    rfl
  have cx2 : v.cell? ⟨b, o + x * 11 + 3 + 2, none⟩ = some (.int .i64 (ix L x)) := cx
  have cy2 : v.cell? ⟨b, o + y * 11 + 3 + 2, none⟩ = some (.int .i64 (ix L y)) := cy
  have hxi : (x : Int) < n := by omega
  have hyi : (y : Int) < n := by omega
  generalize ix L x = p at *
  generalize ix L y = q at *
  clear ex ey hlx hly hF
  have C := Lib.hid (cmp_same p q)
  go_enter Try.func29, Try.ntmps29
  go_wp2_with fail
  go_quiet ((go_at_call 30; exact Calls.quiet_of_same (C.out _)))
  go_wp2_with fail
  go_ret
  exact ⟨rfl, _, rfl⟩
section
variable {n : Nat}
def enc (x : Fin n) : Value := .int .i64 (x.val : Int)
/-- In the order of their indexes. -/
def Rising (L : List Fnd) (M : List (Fin n)) : Prop := ∀ (i j : Nat) (x y : Fin n), i < j → M[i]? = some x → M[j]? = some y → ix L x.val ≤ ix L y.val
def cf (L : List Fnd) (x y : Fin n) : Int := c3 (ix L x.val) (ix L y.val)
theorem lt_is (L : List Fnd) [Inhabited (Fin n)] (x y : Fin n) : ltOf (cf L) x y = decide (ix L x.val < ix L y.val) := by
  unfold ltOf cf
  rw [decide_eq_decide]
  exact c3_neg _ _
theorem swo (L : List Fnd) [Inhabited (Fin n)] : Go.Sort.SWO (ltOf (cf (n := n) L)) where
  irrefl x := by rw [lt_is]; simp
  trans x y z h1 h2 := by rw [lt_is] at *; simp at *; omega
  ntrans x y z h1 h2 := by rw [lt_is] at *; simp at *; omega
theorem FsAt.grown {w w' : World} {b o m g : Nat} {L : List Fnd} (h : FsAt w (some ⟨b, o, none⟩) m L) (hg : w.grownBy w' (some g)) (hne : b ≠ g) : FsAt w' (some ⟨b, o, none⟩) m L := by
  refine ⟨h.1, fun j x hj => ?_⟩
  obtain ⟨h1, h2⟩ := h.at_ j x hj
  refine ⟨b, o, rfl, Nat.lt_of_lt_of_le h1 hg.size, fun i v hv => ?_⟩
  have hb := hg.block b h1 (fun e => hne (by injection e))
  rw [← h2 i v hv]
  unfold World.cell?
  simp only [hb]
theorem grown_sorted [Inhabited (Fin n)] (w : World) (g m : Nat) (d : Array (Fin n)) (os : Array Obj) : w.grownBy (sortWorld enc w g 0 m d os) (some g) := by
  refine ⟨rfl, rfl, rfl, by simp [sortWorld, Go.Sort.grow, Go.Sort.putRow, Go.Sort.mapBlock, Go.Sort.ahead], fun k hk hne => ?_⟩
  have h1 : g ≠ k := fun e => hne (by rw [e])
  unfold sortWorld
  rw [Go.Sort.heap_grow_old _ _ (by simpa [Go.Sort.putRow, Go.Sort.mapBlock, Go.Sort.ahead] using hk)]
  simp [Go.Sort.putRow, Go.Sort.mapBlock, Go.Sort.ahead, Array.getElem?_modify, h1]
set_option maxHeartbeats 1000000 in
theorem sort_calls [Inhabited (Fin n)] (L : List Fnd) (c b o bl g cap base : Nat) (M : List (Fin n)) (W : World) (hn : n ≤ 100000) (hl : M.length ≤ 100000) (hlt : bl < W.heap.size) (hv : W.cell? ⟨bl, 0, none⟩ = some (.slice (some ⟨b, o, none⟩) n c)) (hF : FsAt W (some ⟨b, o, none⟩) n L) (h1 : bl ≠ g) (h2 : b ≠ g)
    (hown : W.ownsRow base 3 1 (.slice (some ⟨g, 0, none⟩) M.length cap) M.length (M.map enc)) :
    Calls Try.prog 34 #[.slice (some ⟨g, 0, none⟩) M.length cap, .func (.func 29) #[] #[.pointer (some ⟨bl, 0, none⟩)]] W fun e w' => e = .returned (.tuple #[]) ∧ ∃ M' : List (Fin n), M'.Perm M ∧ Rising L M' ∧ (∀ (j : Nat) (x : Fin n), M'[j]? = some x → w'.cell? ⟨g, j, none⟩ = some (.int .i64 (x.val : Int))) ∧ W.grownBy w' (some g) := by
  have hg := hown.lt g rfl
  have hH : Go.Sort.Holds enc W g 0 M.toArray := by
    intro j hj
    have hj' : j < M.length := by simpa using hj
    have hc := hown.cells (g := g) rfl j (enc M[j]) (by simp [hj'])
    refine ⟨?_, ?_⟩
    · have e : (⟨g, 0, none⟩ : Addr).add j = ⟨g, 0 + j, none⟩ := Addr.add_mid g 0 j
      rw [← e, hc]
      simp [hj']
    · have := hown.frozenAt (g := g) j
      simpa using this
  have eg : ∀ args w, (callFunc 29 args).run Try.prog w = .ok (.enter 29 args) w := enters_of Try.func29 (by kernel_rfl) rfl
  have hcmp : CmpReads Try.prog 29 #[.pointer (some ⟨bl, 0, none⟩)] (enc (n := n)) (cf L) g 0 M.toArray.size W := by
    intro m os dk hs x y
    have hgr := grown_sorted W g m dk os
    refine cmp_item L n c b o bl x.val y.val x.isLt y.isLt _ hn ?_ (FsAt.grown hF hgr h2)
    rw [← hv]
    have hb := hgr.block bl hlt (fun e => h1 (by injection e))
    unfold World.cell?
    simp only [hb]
  have hcon := Any.slices_SortFunc sortL enc (fun _ => rfl) (cf L) (swo L) 29 #[.pointer (some ⟨bl, 0, none⟩)] g 0 cap M.toArray W eg hcmp.lays hH hg.2 (by simp; omega)
  refine Calls.mono (R := _) hcon ?_
  rintro e w' ⟨he, d', m, os, hp, hs, rfl⟩
  obtain ⟨p1, _, p3⟩ := hp
  have hsz : d'.size = M.length := by simpa using p1
  refine ⟨he, d'.toList, ?_, ?_, ?_, grown_sorted _ _ _ _ _⟩
  · have e1 : (d'.extract 0 M.toArray.size).toList = d'.toList := by rw [p1.symm]; simp
    have e2 : (M.toArray.extract 0 M.toArray.size).toList = M := by simp
    rw [e1, e2] at p3
    exact p3
  · intro i j x y hij hx hy
    have hj : j < d'.size := by
      have := (List.getElem?_eq_some_iff.1 hy).1
      simpa using this
    have := hs i j (Nat.zero_le _) hij (by rw [← p1]; exact hj)
    rw [lt_is] at this
    rw [Array.getElem?_toList] at hx hy
    have ei : d'[i]! = x := by simp [getElem!_def, hx]
    have ej : d'[j]! = y := by simp [getElem!_def, hy]
    rw [ei, ej] at this
    simpa using this
  · intro j x hx
    rw [Array.getElem?_toList] at hx
    have hj : j < d'.size := (Array.getElem?_eq_some_iff.1 hx).1
    unfold sortWorld
    rw [Go.Sort.cell?_grow _ _ _ (by simpa [Go.Sort.putRow, Go.Sort.mapBlock, Go.Sort.ahead] using hg.2)]
    have := Go.Sort.cell?_putRow enc (Go.Sort.ahead W m) g 0 M.toArray d' (Go.Sort.holds_ahead _ _ _ _ _ _ hH) p1 j hj
    rw [Nat.zero_add] at this
    rw [this]
    have ej : d'[j]! = x := by simp [getElem!_def, hx]
    rw [ej]
    rfl
end
end Go.Proofs.Ythmcakaboebagaa.RingJ
