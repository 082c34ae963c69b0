import Derived.Test.YthckelcjncnalabKz37
namespace Go.Proofs.Ythckelcjncnalab
open Go.RowKit

def PWPost (cs : Sch) (p : PH) (w : World) (e : Ending) (w' : World) : Prop := ∃ L, e = .returned (.int .i64 (wlist cs p.K L)) ∧ L.Nodup ∧ (∀ a, a ∈ L ↔ p.in a) ∧ Below w.heap.size w w'
end Go.Proofs.Ythckelcjncnalab
