/- The contracts of Put of layer 6, of the project's and of the document's answer. Condition: the record's bytes read as numbers 0..255. -/
import Derived.Test.YthbafcihmcjchaaGreatDoorRecW
import Derived.Test.YthbafcihmcjchaaGreatDoorPackH
namespace Go.Proofs.YthbafcihmcjchaaGreatDoor.RecP
set_option linter.unusedVariables false
set_option linter.unusedSimpArgs false
open Go.RowKit
open Go.Proofs.YthbafcihmcjchaaGreatDoor.Byte Go.Proofs.YthbafcihmcjchaaGreatDoor.PackM Go.Proofs.YthbafcihmcjchaaGreatDoor.PackV Go.Proofs.YthbafcihmcjchaaGreatDoor.PackS Go.Proofs.YthbafcihmcjchaaGreatDoor.SumV Go.Proofs.YthbafcihmcjchaaGreatDoor.RecM Go.Proofs.YthbafcihmcjchaaGreatDoor.RecW

/-- A new slice that reads as zs, and an error's number. -/
def MadeE (zs : List Int) (er : Int) (w : World) (e : Ending) (w' : World) : Prop :=
  ∃ g cap, e = .returned (.tuple #[.slice (some ⟨g, 0, none⟩) zs.length cap, .int .i64 er]) ∧ Ob w' w.heap.size 5 g zs.length cap zs ∧ Below w.heap.size w w'
theorem MadeE.of {zs : List Int} {er : Int} {w w' : World} {e : Ending} {g N cap : Nat} (hN : zs.length = N) (he : e = .returned (.tuple #[.slice (some ⟨g, 0, none⟩) N cap, .int .i64 er])) (ho : Ob w' w.heap.size 5 g N cap zs) (hb : Below w.heap.size w w') : MadeE zs er w e w' := by
  subst hN
  exact ⟨g, cap, he, ho, hb⟩
theorem MadeE.at_ {zs : List Int} {er : Int} {w w' : World} {e : Ending} {N : Nat} (h : MadeE zs er w e w') (hN : zs.length = N) :
    ∃ g cap, e = .returned (.tuple #[.slice (some ⟨g, 0, none⟩) N cap, .int .i64 er]) ∧ Ob w' w.heap.size 5 g N cap zs ∧ Below w.heap.size w w' := by
  subst hN
  exact h

theorem bs_one (w : World) (v : Int) (h0 : 0 ≤ v) (h1 : v ≤ 255) (f : Nat × Nat) : Bs (w.alloc (.cells #[.int .u8 v] 5 f)) (some ⟨w.heap.size, 0, none⟩) 1 [v] :=
  Bs.new_ w 5 f [v] (by intro x hx; rw [List.mem_singleton] at hx; subst hx; exact ⟨h0, h1⟩)
set_option maxHeartbeats 400000 in
theorem refput_long (A : Option Addr) (n c : Nat) (w : World) (h : 65535 < n) : Calls Tryz.prog 64 #[.slice A n c] w (MadeE [] 4 w) := by
  go_enter Tryz.func64, Tryz.ntmps64
  go_wp2_with fail
  go_ret2
  exact MadeE.of rfl rfl (Ob.new_ _ _ (Nat.le_refl _)) ((Below.refl _ _).alloc (Nat.le_refl _) _)
set_option maxRecDepth 100000 in
set_option maxHeartbeats 2000000 in
theorem refput_calls (A : Option Addr) (n c : Nat) (xs : List Int) (w : World) (hb : Bs w A n xs) (hA : A = none → c = 0) (hn : n ≤ 65535) : Calls Tryz.prog 64 #[.slice A n c] w (MadeE (frame 127 xs) 0 w) := by
  have hl := hb.len
  have HL1 : Hid (([] ++ low (width 2) (n : Int)) = low 2 (n : Int)) := Lib.hid rfl
  have HL2 : Hid (([127] ++ low (width 2) (n : Int)) = [127] ++ low 2 (n : Int)) := Lib.hid rfl
  have HS := Lib.hid (SumM.sum_bd (body xs))
  have hs : low 2 (n : Int) ++ xs = body xs := by unfold body; rw [hl]
  have HSe := Lib.hid hs
  have hf : front 127 xs = [127] ++ low 2 (n : Int) ++ low (width 4) (SumM.sum (body xs)) := by unfold front; rw [hl]; rfl
  have HF := Lib.hid hf
  have hfl : (frame 127 xs).length = n + 7 + 1 := by rw [frame_len, hl]
  have HFL := Lib.hid hfl
  have HB := Lib.hid hb
  clear hb hl hs hf hfl
  have h2l : (low 2 (n : Int)).length = 2 := low_len _ _
  have HL := Lib.hid h2l
  clear h2l
  go_enter Tryz.func64, Tryz.ntmps64
  go_wp2_with fail
  refine (PackS.refput_calls (some ⟨w.heap.size, 0, none⟩) 0 0 [] 2 n _ (Bs.nil_ _ _) (fun e => by cases e) (by omega) (by omega) (by omega) (by omega) (by omega)).mono ?_
  intro e w1 hm1
  rw [HL1.out] at hm1
  obtain ⟨g1, cap1, rfl, ho1, hb1⟩ := hm1.at_ HL.out
  clear hm1
  have hz1 : w.heap.size + 1 ≤ w1.heap.size := by have := hb1.size; simpa using this
  have hbel1 : Below w.heap.size w w1 := ((Below.refl _ _).alloc (Nat.le_refl _) _).trans (hb1.mono (by simp))
  have HO1 := Lib.hid (lower ho1 (show w.heap.size ≤ _ by simp))
  have hp1 := HO1.out.place
  clear ho1 hb1
  go_wp2_with ((with_reducible refine pick (some 17) ?_); refine wpList_append_bytes rfl (.tmp 15) (.tmp 16) _ rfl w.heap.size 5 Tryz.underlying38 info8 g1 2 cap1 _ rfl HO1.out A n c xs rfl (HB.out.below hbel1) hA (n + 2) (by omega) _ rfl (by omega) (by omega) ?_; intro g2 cap2 w2 hown2 hg2 hat2; have hz2 := hg2.size; have hbel2 := hbel1.grown hg2 (by omega) (by intro k hk; injection hk with hk; omega); have HO2 : Hid (Ob w2 w.heap.size 5 g2 (n + 2) cap2 (low 2 (n : Int) ++ xs)) := Lib.hid hown2; clear hown2 hg2 hat2)
  rw [HSe.out] at HO2
  refine (PackS.refput_calls (some ⟨w2.heap.size, 0, none⟩) 1 1 [127] 2 n _ (bs_one w2 127 (by omega) (by omega) _) (fun e => by cases e) (by omega) (by omega) (by omega) (by omega) (by omega)).mono ?_
  intro e w3 hm3
  rw [HL2.out] at hm3
  obtain ⟨g3, cap3, rfl, ho3, hb3⟩ := hm3.at_ (N := 3) rfl
  clear hm3
  have hz3 : w2.heap.size + 1 ≤ w3.heap.size := by have := hb3.size; simpa using this
  have hp2 := HO2.out.place
  have hb3' : Below w2.heap.size w2 w3 := ((Below.refl _ _).alloc (Nat.le_refl _) _).trans (hb3.mono (by simp))
  have HO2' := Lib.hid (HO2.out.below hb3')
  have HO3 := Lib.hid ho3
  have hbel3 := keeps hbel2 hb3'
  clear ho3 hb3 hb3' HO2 HO1
  have hsb := HS.out
  go_wp2_with fail
  refine (refsum_calls _ (n + 2) cap2 (body xs) _ HO2'.out.bs (by unfold maxLen; omega)).mono ?_
  rintro e w' ⟨rfl, rfl⟩
  go_wp2_with fail
  refine (PackS.refput_calls _ 3 cap3 ([127] ++ low 2 (n : Int)) 4 (SumM.sum (body xs)) _ HO3.out.bs (fun e => by cases e) (by omega) (by omega) (by omega) (by omega) (by omega)).mono ?_
  intro e w4 hm4
  rw [← HF.out] at hm4
  obtain ⟨g4, cap4, rfl, ho4, hb4⟩ := hm4.at_ (front_len 127 xs)
  have hp4 := ho4.place
  have hz4 := hb4.size
  have hbel4 := keeps hbel3 hb4
  have HO4 := Lib.hid ho4
  clear hm4 ho4 hb4 hbel3 HO3 HO2'
  go_wp2_with (first
    | ((with_reducible refine pick (some 30) ?_); refine wpList_append_bytes rfl (.tmp 28) (.tmp 29) _ rfl w3.heap.size 5 Tryz.underlying38 info8 g4 7 cap4 (front 127 xs) rfl HO4.out A n c xs rfl (HB.out.below hbel4) hA (n + 7) (by omega) _ rfl (by omega) (by omega) ?_; intro g5 cap5 w5 hown5 hg5 hat5; have hz5 := hg5.size; have hbel5 := hbel4.grown hg5 (by omega) (by intro k hk; injection hk with hk; omega); have HO5 : Hid (Ob w5 w3.heap.size 5 g5 (n + 7) cap5 (front 127 xs ++ xs)) := Lib.hid hown5; clear hown5 hg5 hat5)
    | ((with_reducible refine pick (some 33) ?_); refine wpList_append_bytes rfl (.tmp 31) (.tmp 32) _ rfl w3.heap.size 5 Tryz.underlying38 info8 g5 (n + 7) cap5 (front 127 xs ++ xs) rfl (HO5.out.below ((Below.refl _ _).alloc (Nat.le_refl _) _)) (some ⟨w5.heap.size, 0, none⟩) 1 1 [0] rfl (bs_one w5 0 (by omega) (by omega) _) (fun e => by cases e) (n + 7 + 1) (by omega) (frame 127 xs) rfl (by omega) (by simp; omega) ?_; intro g6 cap6 w6 hown6 hg6 hat6))
  have hp5 := HO5.out.place
  have hz6 := hg6.size
  have hbel6 := (hbel5.alloc hbel5.size (.cells #[.int .u8 0] 5)).grown hg6 (by simp; omega) (by intro k hk; injection hk with hk; omega)
  go_ret2
  exact MadeE.of HFL.out rfl (lower hown6 (by omega)) hbel6
end Go.Proofs.YthbafcihmcjchaaGreatDoor.RecP
