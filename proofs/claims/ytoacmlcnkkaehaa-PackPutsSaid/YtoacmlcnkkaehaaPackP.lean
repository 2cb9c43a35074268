/- The walk of layer 3's law PackPuts. Condition: the slices of bytes read as numbers 0..255, the integers fit their kinds. -/
import Derived.Test.YtoacmlcnkkaehaaPackL
namespace Go.Proofs.Ytoacmlcnkkaehaa.PackP
open Go.RowKit
open Go.Proofs.Ytoacmlcnkkaehaa.Byte Go.Proofs.Ytoacmlcnkkaehaa.PackM Go.Proofs.Ytoacmlcnkkaehaa.PackW Go.Proofs.Ytoacmlcnkkaehaa.PackR Go.Proofs.Ytoacmlcnkkaehaa.PackL

/-- What the compared slices read as, in a world. -/
def Reads (v : World) (s : Value) (t : ByteArray) : Prop := (convert 22 9 s).run Try.prog v = .ok (.string t) v
theorem Reads.of_ob {v : World} {base : Nat} {g n cap : Nat} {xs : List Int} {t : ByteArray} (h : Ob v base 5 g n cap xs) (ht : str xs = t) : Reads v (.slice (some ⟨g, 0, none⟩) n cap) t := by
  subst ht
  exact h.str_ 22 9 Try.underlying22 Try.underlying5 Try.underlying9
theorem Reads.of_bs {v : World} {A : Option Addr} {n c : Nat} {xs : List Int} {t : ByteArray} (h : Bs v A n xs) (ht : str xs = t) : Reads v (.slice A n c) t := by
  subst ht
  exact h.str_ 22 9 Try.underlying22 Try.underlying5 Try.underlying9

theorem zero8 (w : World) : (zeroValue 5).run Try.prog w = .ok (.int .u8 0) w := by kernel_rfl
theorem keeps {w v v' : World} (h : Below w.heap.size w v) (hb : Below v.heap.size v v') : Below w.heap.size w v' := h.trans (hb.mono h.size)

set_option maxHeartbeats 1600000 in
theorem puts_law (A : Option Addr) (n c : Nat) (xs : List Int) (m x : Int) (s : ByteArray) (w : World) (hb : Bs w A n xs) (hA : A = none → c = 0) (hn : n ≤ maxLen) (hs : s.size ≤ maxLen)
    (h0 : -9223372036854775808 ≤ m) (h1 : m ≤ 9223372036854775807) (hx0 : 0 ≤ x) (hx1 : x ≤ 18446744073709551615) :
    Calls Try.prog 3 #[.slice A n c, .int .i64 m, .int .u64 x, .string s] w fun e w' => e = .returned (.bool true) ∧ Below w.heap.size w w' := by
  unfold maxLen at hn hs
  have HB := Lib.hid hb
  clear hb
  by_cases hbig : 3000 < n
  · go_enter Try.func3, Try.ntmps3
    go_wp2_with (go_at_call 6; refine (fixed_calls _).mono ?_; rintro e w' ⟨rfl, hbel⟩)
    go_ret
    exact ⟨rfl, hbel⟩
  have d1 : decide (3000 < (n : Int)) = false := by simp; omega
  by_cases hbig2 : 3000 < s.size
  · go_enter Try.func3, Try.ntmps3
    go_wp2_with (go_at_call 6; refine (fixed_calls _).mono ?_; rintro e w' ⟨rfl, hbel⟩)
    go_ret
    exact ⟨rfl, hbel⟩
  have d2 : decide (3000 < (s.size : Int)) = false := by simp; omega
  have hn' : n ≤ 3000 := by omega
  have hs' : s.size ≤ 3000 := by omega
  clear hbig hbig2
  have hwd := width_bd m
  have h255 : (s.extract 0 (min s.size 255)).size ≤ 255 := by
    rw [ByteArray.size_extract]
    omega
  obtain ⟨P, hP⟩ : ∃ P, xs ++ low (width m) x = P := ⟨_, rfl⟩
  obtain ⟨T, hT⟩ : ∃ T, xs ++ ((s.extract 0 (min s.size 255)).size : Int) :: txt (s.extract 0 (min s.size 255)) = T := ⟨_, rfl⟩
  obtain ⟨pl, hpl⟩ : ∃ pl, P.length = pl := ⟨_, rfl⟩
  obtain ⟨tl, htl⟩ : ∃ tl, T.length = tl := ⟨_, rfl⟩
  have hpl1 : 1 ≤ pl ∧ pl ≤ 3008 := by
    rw [← hpl, ← hP, List.length_append, low_len, HB.out.len]
    omega
  have htl1 : 1 ≤ tl ∧ tl ≤ 3256 := by
    rw [← htl, ← hT, List.length_append, List.length_cons, txt_len, HB.out.len]
    omega
  clear h255
  obtain ⟨sp, hsp⟩ : ∃ sp, str P = sp := ⟨_, rfl⟩
  obtain ⟨st, hst⟩ : ∃ st, str T = st := ⟨_, rfl⟩
  obtain ⟨sx, hsx⟩ : ∃ sx, str xs = sx := ⟨_, rfl⟩
  have HP := Lib.hid hP
  have HT := Lib.hid hT
  have HPL := Lib.hid hpl
  have HTL := Lib.hid htl
  have HSP := Lib.hid hsp
  have HST := Lib.hid hst
  have HSX := Lib.hid hsx
  clear hP hT hpl htl hsp hst hsx
  go_enter Try.func3, Try.ntmps3
  go_wp2_with (at_builtin; refine wpList_append_bytes rfl (.tmp 21) (.tmp 22) _ rfl w.heap.size 5 Try.underlying22 info8 w.heap.size 0 0 [] rfl (Ob.new_ _ _ (Nat.le_refl _)) A n c xs rfl (HB.out.below ((Below.refl _ _).alloc (Nat.le_refl _) _)) hA n (by omega) xs rfl (by omega) (by simp) ?_; intro g1 cap1 w1 hown1 hg1 _; have hbel1 : Below w.heap.size w w1 := ((Below.refl _ _).alloc (Nat.le_refl _) _).grown hg1 (by simp) (by intro k hk; injection hk with hk; omega); clear hg1)
  refine (put_calls _ n cap1 _ m x _ hown1.bs (by omega) h0 h1).mono ?_
  rw [HP.out]
  intro e w2 hm2
  obtain ⟨g2, cap2, rfl, hown2, hbel2⟩ := hm2.at_ HPL.out
  clear hm2
  go_wp2_with fail
  refine (puttext_calls _ n cap1 _ s _ (hown1.below hbel2).bs (by omega) (by unfold maxLen; omega)).mono ?_
  rw [HT.out]
  intro e w3 hm3
  obtain ⟨g3, cap3, rfl, hown3, hbel3⟩ := hm3.at_ HTL.out
  clear hm3
  have hz1 := hown1.place
  have hz2 := hown2.place
  have hz3 := hown3.place
  have hsz2 := hbel2.size
  have hW : Below w.heap.size w w3 := (hbel1.trans (hbel2.mono hbel1.size)).trans (hbel3.mono (by have := hbel1.size; omega))
  have o1 := (hown1.below hbel2).below hbel3
  have o2 := hown2.below hbel3
  have RD : Hid (∀ v, Below w3.heap.size w3 v → Below w3.heap.size w3 v ∧ Reads v (.slice (some ⟨g1, 0, none⟩) n cap1) sx ∧ Reads v (.slice (some ⟨g2, 0, none⟩) pl cap2) sp ∧ Reads v (.slice (some ⟨g3, 0, none⟩) tl cap3) st ∧ Reads v (.slice A n c) sx) :=
    fun v hv => ⟨hv, .of_ob (o1.below hv) HSX.out, .of_ob (o2.below hv) HSP.out, .of_ob (hown3.below hv) HST.out, .of_bs ((HB.out.below hW).below hv) HSX.out⟩
  go_wp2_with fail
  refine wp_region_noPanic ?_
  go_region_held (fun v => Below w3.heap.size w3 v ∧ (convert 22 9 (.slice (some ⟨g1, 0, none⟩) n cap1)).run Try.prog v = .ok (.string sx) v ∧ (convert 22 9 (.slice (some ⟨g2, 0, none⟩) pl cap2)).run Try.prog v = .ok (.string sp) v ∧ (convert 22 9 (.slice (some ⟨g3, 0, none⟩) tl cap3)).run Try.prog v = .ok (.string st) v ∧ (convert 22 9 (.slice A n c)).run Try.prog v = .ok (.string sx) v)
    (first
      | exact RD.out _ (Below.refl _ _)
      | exact RD.out _ (by assumption)
      | exact RD.out _ (below_drewN (Below.refl _ _) _)
      | exact RD.out _ (Below.drew (by assumption)))
    (first
      | (go_at_call 9; refine (refput_calls A n c xs m x _ ((HB.out.below hW).below (And.left (by assumption))) hA (by omega) h0 h1 hx0 hx1).mono ?_; rw [HP.out]; intro e w4 hm4; obtain ⟨g4, cap4, rfl, hown4, hb4⟩ := hm4.at_ HPL.out; have hn4 : Below w3.heap.size w3 w4 := keeps (And.left (by assumption)) hb4; have hcv4 := Reads.of_ob hown4 HSP.out; unfold Reads at hcv4; clear hm4 hown4 hb4)
      | (go_at_call 10; refine (refputtext_calls A n c xs s _ ((HB.out.below hW).below (And.left (by assumption))) hA (by omega) (by unfold maxLen; omega)).mono ?_; rw [HT.out]; intro e w5 hm5; obtain ⟨g5, cap5, rfl, hown5, hb5⟩ := hm5.at_ HTL.out; have hn5 : Below w3.heap.size w3 w5 := keeps (And.left (by assumption)) hb5; have hcv5 := Reads.of_ob hown5 HST.out; unfold Reads at hcv5; clear hm5 hown5 hb5))
  refine NoPanic.normal ?_
  rename_i hH
  have HH : Below w3.heap.size w3 _ := hH.1
  clear hH
  go_wp2_with (first
    | ((with_reducible refine pick none ?_); refine wpList_clear_bytes rfl _ _ rfl w1.heap.size 5 Try.underlying22 zero8 g2 pl cap2 P rfl (o2.below HH) (by omega) ?_; intro w6 hg6)
    | ((with_reducible refine pick none ?_); refine wpList_clear_bytes rfl _ _ rfl w2.heap.size 5 Try.underlying22 zero8 g3 tl cap3 T rfl ((hown3.below HH).grown hg6 (by intro e; injection e with e; omega)) (by omega) ?_; intro w7 hg7))
  have hlt1 := hbel1.size
  have hlt2 := hbel2.size
  have hlt3 := hbel3.size
  have hltH := HH.size
  have hne2 : some g2 ≠ some g1 := by intro e; injection e with e; omega
  have hne3 : some g3 ≠ some g1 := by intro e; injection e with e; omega
  have hV := hW.trans (HH.mono (by omega))
  have hV6 := hV.grown hg6 (by omega) (by intro k hk; injection hk with hk; omega)
  have hV7 := hV6.grown hg7 (by have := hV6.size; omega) (by intro k hk; injection hk with hk; omega)
  have o7 := ((o1.below HH).grown hg6 hne2).grown hg7 hne3
  clear hne2 hne3
  refine (fixed_calls _).mono ?_
  rintro e w8 ⟨rfl, hbel8⟩
  have hV8 := hV7.trans (hbel8.mono hV7.size)
  have hc1 := Reads.of_ob (o7.below hbel8) HSX.out
  have hc2 := Reads.of_bs (c := c) (HB.out.below hV8) HSX.out
  unfold Reads at hc1 hc2
  go_wp2_with fail
  go_ret
  exact ⟨rfl, hV8⟩
end Go.Proofs.Ytoacmlcnkkaehaa.PackP
