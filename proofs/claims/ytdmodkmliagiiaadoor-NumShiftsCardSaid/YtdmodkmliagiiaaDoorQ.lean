/- Growth upon growth, under one name. -/
import Derived.Test.YtdmodkmliagiiaaDoorP
namespace Go.Proofs.YtdmodkmliagiiaaDoor
def More.add (x y : More) : More := ⟨x.blocks ++ y.blocks, y.draws⟩
theorem plus_add (w : World) (x y : More) : plus (plus w x) y = plus w (x.add y) := plus_plus w x y
theorem plus_drew' (w : World) (x : More) : (plus w x).drew = plus w ⟨x.blocks, x.draws + 1⟩ := rfl
end Go.Proofs.YtdmodkmliagiiaaDoor
