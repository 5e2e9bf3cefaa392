import Derived.Test.YtmeljcbefnojfaaIt
import Derived.Test.YtmeljcbefnojfaaLaw
namespace Go.Proofs.Ytmeljcbefnojfaa
open Go.RowKit
attribute [local go_sem] Oper.semAt_some
def midOf (p : Pap) : Int := p.height / 2
/-- the four ends -/
structure Ends (p : Pap) (t : Pt) (c K1 K2 K3 K4 : Int) : Prop where
  below : SC (fun y => leastOf p t c ≤ arcOf p y) (fun y => greatOf p t c < arcOf p y) (hLo p t) (min (hHi p t) (midOf p)) K1 K2
  above : SC (fun y => arcOf p y ≤ greatOf p t c) (fun y => arcOf p y < leastOf p t c) (max (hLo p t) (midOf p + 1)) (hHi p t) K3 K4
end Go.Proofs.Ytmeljcbefnojfaa
