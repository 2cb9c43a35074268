/- The project's tree: its methods that look. -/
import Derived.Test.YtbdokofdbeccdaaDoorTreeD
import Derived.Deep.LoopGhost
import Derived.Laws.ResultCell
namespace Go.Proofs.YtbdokofdbeccdaaDoor.TreeQ
set_option linter.unusedVariables false
set_option linter.unusedSimpArgs false
open Go.RowKit
open Go.Proofs.YtbdokofdbeccdaaDoor.Byte Go.Proofs.YtbdokofdbeccdaaDoor.KeysM Go.Proofs.YtbdokofdbeccdaaDoor.TreeM Go.Proofs.YtbdokofdbeccdaaDoor.Own Go.Proofs.YtbdokofdbeccdaaDoor.Rw Go.Proofs.YtbdokofdbeccdaaDoor.Lst Go.Proofs.YtbdokofdbeccdaaDoor.TreeR Go.Proofs.YtbdokofdbeccdaaDoor.TreeS Go.Proofs.YtbdokofdbeccdaaDoor.TreeC Go.Proofs.YtbdokofdbeccdaaDoor.TreeL Go.Proofs.YtbdokofdbeccdaaDoor.TreeB Go.Proofs.YtbdokofdbeccdaaDoor.TreeD

/-- A version, with its root. -/
def Vn (w : World) (b : Nat) (A : Option Addr) (t : Tt) : Prop := Blk w b #[.pointer A] 60 ∧ Nd w t A
theorem get_ino_l {l r : Tt} {q : Pr} {k : ByteArray} (h : Rise (Tt.nd l q r).ino) (hk : kl k q.key = true) : getL k (Tt.nd l q r).ino = getL k l.ino := Tt.get_l h hk
theorem get_ino_r {l r : Tt} {q : Pr} {k : ByteArray} (h : Rise (Tt.nd l q r).ino) (hk : kl q.key k = true) : getL k (Tt.nd l q r).ino = getL k r.ino := Tt.get_r h hk
theorem get_ino_m {l r : Tt} {q : Pr} {k : ByteArray} (h : Rise (Tt.nd l q r).ino) (hk : k = q.key) : getL k (Tt.nd l q r).ino = some q := by
  subst hk
  exact Tt.get_m h
theorem neq_false {a b : ByteArray} (h : a ≠ b) : (a.toList == b.toList) = false := by rw [eq_list, decide_eq_false h]
theorem neq_true {a b : ByteArray} (h : a = b) : (a.toList == b.toList) = true := by rw [eq_list, decide_eq_true h]
set_option maxRecDepth 100000 in
set_option maxHeartbeats 1000000 in
theorem get_calls (b : Nat) (A : Option Addr) (t : Tt) (k : ByteArray) (w : World) (h : Vn w b A t) (hr : Rise t.ino) (G : Option Pr) (hG : getL k t.ino = G) :
    Calls Tryd.prog 51 #[.pointer (some ⟨b, 0, none⟩), .string k] w fun e w' => e = .returned (GotV G) ∧ w = w' := by
  have HN := Lib.hid h.2
  have HT := Lib.hid h.1
  have HR := Lib.hid hr
  have HG := Lib.hid hG
  clear h hr hG
  go_enter Tryd.func51, Tryd.ntmps51
  go_wp2_with (go_at_call 64; refine (top_calls b A _ HT.out).mono ?_; rintro e w1 ⟨rfl, rfl⟩)
  go_loopg [6] t.sz (fun m n wr => ∃ (t' : Tt) (A' : Option Addr), n = .pointer A' ∧ Hid (Nd w t' A') ∧ Hid (Rise t'.ino) ∧ Hid (getL k t'.ino = G) ∧ Hid (t'.sz ≤ m) ∧ wr = w)
  case atStart => exact ⟨t, A, rfl, HN, HR, HG, Lib.hid (Nat.le_refl _), rfl⟩
  case round =>
    obtain ⟨t', A', rfl, HN', HR', HG', HK, rfl⟩ := hrel
    cases t' with
    | no =>
      obtain rfl : A' = none := HN'.out
      have hG : none = G := HG'.out
      subst hG
      go_wp2_with fail
      go_ret2
      exact ⟨rfl, rfl⟩
    | nd l q r =>
      obtain ⟨d, C, D, rfl, hk, hl, hr⟩ := HN'.out
      have c0 : wr.cell? ⟨d, 0, none⟩ = some (.string q.key) := hk.cell 0
      have c1 : wr.cell? ⟨d, 1, none⟩ = some (.string q.value) := hk.cell 1
      have HKK := Lib.hid hk
      have HL := Lib.hid hl
      have HRR := Lib.hid hr
      clear hk hl hr
      by_cases he : k = q.key
      · have z1 : (q.key.toList == k.toList) = true := neq_true he.symm
        have hG : some q = G := (get_ino_m HR'.out he).symm.trans HG'.out
        subst hG
        clear he
        go_wp2_with fail
        go_ret2
        exact ⟨rfl, rfl⟩
      · have z1 : (q.key.toList == k.toList) = false := neq_false fun h => he h.symm
        cases h1 : kl k q.key with
        | true =>
          have HG2 := Lib.hid ((get_ino_l HR'.out h1).symm.trans HG'.out)
          have HR2 := Lib.hid (Tt.rise_mid HR'.out).1
          have H1 := Lib.hid h1
          clear he h1
          go_wp2_with (go_at_call 67; refine (towards_l d q C D _ _ k _ HKK.out H1.out).mono ?_; rintro e w1 ⟨rfl, rfl⟩)
          go_roundg l.sz
          case rel => exact ⟨l, _, rfl, HL, HR2, HG2, Lib.hid (Nat.le_refl _), rfl⟩
          case measure => have := HK.out; simp only [Tt.sz] at this; omega
        | false =>
          have h2 : kl q.key k = true := by
            cases h3 : kl q.key k with
            | true => rfl
            | false => exact absurd (kl_tri h1 h3) he
          have HG2 := Lib.hid ((get_ino_r HR'.out h2).symm.trans HG'.out)
          have HR2 := Lib.hid (Tt.rise_mid HR'.out).2.1
          have H1 := Lib.hid h1
          clear he h1 h2
          go_wp2_with (go_at_call 67; refine (towards_r d q C D _ _ k _ HKK.out H1.out).mono ?_; rintro e w1 ⟨rfl, rfl⟩)
          go_roundg r.sz
          case rel => exact ⟨r, _, rfl, HRR, HR2, HG2, Lib.hid (Nat.le_refl _), rfl⟩
          case measure => have := HK.out; simp only [Tt.sz] at this; omega
end Go.Proofs.YtbdokofdbeccdaaDoor.TreeQ
