/- Do, whatever its kind: one contract. -/
import Derived.Test.YtdcmpkohengnaaaNorDs
import Derived.Test.YtdcmpkohengnaaaNorDq
namespace Go.Proofs.Ytdcmpkohengnaaa.NorDt
set_option linter.unusedVariables false
open Go.RowKit
open Go.Proofs.Ytdcmpkohengnaaa.Byte Go.Proofs.Ytdcmpkohengnaaa.NorD Go.Proofs.Ytdcmpkohengnaaa.NorM Go.Proofs.Ytdcmpkohengnaaa.NorS Go.Proofs.Ytdcmpkohengnaaa.NorP Go.Proofs.Ytdcmpkohengnaaa.NorK Go.Proofs.Ytdcmpkohengnaaa.NorDo Go.Proofs.Ytdcmpkohengnaaa.NorDp Go.Proofs.Ytdcmpkohengnaaa.NorDq Go.Proofs.Ytdcmpkohengnaaa.NorDr Go.Proofs.Ytdcmpkohengnaaa.NorDs

/-- What an operation makes of a state. -/
def St.step (s : St) (n z : Nat) (kd se off nn kk mm : Int) (bs : List Int) : St :=
  if kd = 0 then (s.program n z (pl se off).1 (pl se off).2 bs).2
  else if kd = 1 then (s.erase n z se).2
  else if kd = 2 then s
  else if kd = 3 then s.setCut nn kk mm
  else if kd = 4 then s.turn
  else if kd = 5 then s.up
  else s.spoil n se
section
variable {lo hi d rl n z K : Nat} {D R : St}
theorem dp_more {w w' : World} {e : Ending} {P Q : Prop} {K' : Nat} (h : DoPost w lo hi d rl n z K D R P e w') (hK : K ≤ K') (hb : K' ≤ 1000000) (hQ : Q → P) : DoPost w lo hi d rl n z K' D R Q e w' := by
  obtain ⟨ok, v', h1, h2, h3, h4, h5⟩ := h
  exact ⟨ok, v', h1, fun q => h2 (hQ q), dev_more h3 hK hb, h4.more hK hb, h5⟩
theorem do_calls (w : World) (v : Value) (hD : Dev w lo hi d n z K D) (hR : Ref w rl n z K R v) (hh : hi ≤ rl) (hl : rl ≤ w.heap.size) (hK : K + 3 ≤ 1000000) (kd se off : Int) (B : Option Addr) (bl bq : Nat) (nn kk mm : Int) (bs : List Int) (hB : Bs w B bl bs) (hBA : B = none → bq = 0) (hbl : bl ≤ 100000) (hBlo : 0 < bl → ∀ b o, B = some ⟨b, o, none⟩ → b < lo)
    (hn0 : -9223372036854775808 ≤ nn) (hn : nn ≤ 9223372036854775807) (hk : kk ≤ 9223372036854775807) (hm0 : 0 ≤ mm) (hm1 : mm ≤ 255) :
    Calls Try.prog 12 #[.pointer (some ⟨d, 0, none⟩), v, .agg #[.int .i64 kd, .int .i64 se, .int .i64 off, .slice B bl bq, .int .i64 nn, .int .i64 kk, .int .u8 mm]] w
      (DoPost w lo hi d rl n z (K + 2) (St.step D n z kd se off nn kk mm bs) (St.step R n z kd se off nn kk mm bs) (D = R)) := by
  unfold St.step
  by_cases h0 : kd = 0
  · subst h0
    rw [if_pos rfl, if_pos rfl]
    exact (do_program w v hD hR hh hl hK se off B bl bq nn kk mm bs hB hBA hbl hBlo).mono fun e w' h => dp_more h (by omega) (by omega) id
  rw [if_neg h0, if_neg h0]
  by_cases h1 : kd = 1
  · subst h1
    rw [if_pos rfl, if_pos rfl]
    exact do_erase w v hD hR hh hl hK se off B bl bq nn kk mm
  rw [if_neg h1, if_neg h1]
  by_cases h2 : kd = 2
  · subst h2
    rw [if_pos rfl, if_pos rfl]
    cases hi' : inside n z (pl se off).1 (pl se off).2 nn with
    | false =>
      cases hd : D.on with
      | false =>
        cases hr : R.on with
        | false => exact (do_read_off_off w v hD hR hh hl hK se off B bl bq nn kk mm hd hr hn0 hn).mono fun e w' h => dp_more h (by omega) (by omega) id
        | true => exact (do_read_off_arg w v hD hR hh hl hK se off B bl bq nn kk mm hd hr hi' hn0 hn).mono fun e w' h => dp_more h (by omega) (by omega) id
      | true =>
        cases hr : R.on with
        | false => exact (do_read_arg_off w v hD hR hh hl hK se off B bl bq nn kk mm hd hr hi' hn0 hn).mono fun e w' h => dp_more h (by omega) (by omega) id
        | true => exact (do_read_arg_arg w v hD hR hh hl hK se off B bl bq nn kk mm hd hr hi' hn0 hn).mono fun e w' h => dp_more h (by omega) (by omega) id
    | true =>
      have hp : 0 ≤ nn := by
        unfold inside at hi'
        rw [decide_eq_true_eq] at hi'
        exact hi'.1
      obtain ⟨m, rfl⟩ := Int.eq_ofNat_of_zero_le hp
      cases hd : D.on with
      | false =>
        cases hr : R.on with
        | false => exact (do_read_off_off w v hD hR hh hl hK se off B bl bq m kk mm hd hr hn0 hn).mono fun e w' h => dp_more h (by omega) (by omega) id
        | true => exact (do_read_off_ok w v hD hR hh hl hK se off B bl bq m kk mm hd hr hi').mono fun e w' h => dp_more h (by omega) (by omega) id
      | true =>
        cases hr : R.on with
        | false => exact (do_read_ok_off w v hD hR hh hl hK se off B bl bq m kk mm hd hr hi').mono fun e w' h => dp_more h (by omega) (by omega) id
        | true => exact (do_read_ok_ok w v hD hR hh hl hK se off B bl bq m kk mm hd hr hi').mono fun e w' h => dp_more h (by omega) (by omega) id
  rw [if_neg h2, if_neg h2]
  by_cases h3 : kd = 3
  · subst h3
    rw [if_pos rfl, if_pos rfl]
    exact (do_cut w v hD hR hh hl hK se off B bl bq nn kk mm hn hk hm0 hm1).mono fun e w' h => dp_more h (by omega) (by omega) fun _ => trivial
  rw [if_neg h3, if_neg h3]
  by_cases h4 : kd = 4
  · subst h4
    rw [if_pos rfl, if_pos rfl]
    exact (do_off w v hD hR hh hl hK se off B bl bq nn kk mm).mono fun e w' h => dp_more h (by omega) (by omega) fun _ => trivial
  rw [if_neg h4, if_neg h4]
  by_cases h5 : kd = 5
  · subst h5
    rw [if_pos rfl, if_pos rfl]
    exact (do_on w v hD hR hh hl hK se off B bl bq nn kk mm).mono fun e w' h => dp_more h (by omega) (by omega) fun _ => trivial
  rw [if_neg h5, if_neg h5]
  exact (do_spoil w v hD hR hh hl hK se off B bl bq nn kk mm kd (by omega)).mono fun e w' h => dp_more h (by omega) (by omega) fun _ => trivial
end
end Go.Proofs.Ytdcmpkohengnaaa.NorDt
