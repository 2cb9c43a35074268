/- The document's Write of layer 14, whatever is written. -/
import Derived.Test.YtdnenikplajmaaaViewWb
namespace Go.Proofs.Ytdnenikplajmaaa.ViewWa
open Go.RowKit
open Go.Proofs.Ytdnenikplajmaaa.TreeM Go.Proofs.Ytdnenikplajmaaa.ViewM Go.Proofs.Ytdnenikplajmaaa.ViewR Go.Proofs.Ytdnenikplajmaaa.ViewW
theorem two (b : Bool) : b = true ∨ b = false := by cases b <;> simp
theorem refwrite_view (s : Vs) (b wt rd rg : Sh) (p : Pr) (w : World) (hd : Dv w s b wt rd rg) (hb : s.base.length ≤ 1000) (hok : s.Ok) :
    Calls Try.prog 31 #[.agg #[.slice b.a b.n b.c, .slice wt.a wt.n wt.c, .slice rd.a rd.n rd.c, .slice rg.a rg.n rg.c], .agg #[.string p.key, .string p.value, .bool p.gone]] w (WrR s p b wt rd rg w) := by
  rcases two (fullW s.wr p) with hf | hf
  · exact write_full s b wt rd rg p w hd hb hok hf
  · rcases two (inW p.key s.wr) with hw | hw
    · rcases two p.gone with hg | hg
      · rcases two (getL p.key s.base).isSome with hy | hy
        · exact write_p3 s b wt rd rg p w hd hb hok hf hw hg hy
        · exact write_c1 s b wt rd rg p w hd hb hok hf hw hg hy
      · exact write_p1 s b wt rd rg p w hd hb hok hf hw hg
    · rcases two p.gone with hg | hg
      · rcases two (getL p.key s.base).isSome with hy | hy
        · exact write_p4 s b wt rd rg p w hd hb hok hf hw hg hy
        · exact write_c2 s b wt rd rg p w hd hb hok hf hw hg hy
      · exact write_p2 s b wt rd rg p w hd hb hok hf hw hg
end Go.Proofs.Ytdnenikplajmaaa.ViewWa
