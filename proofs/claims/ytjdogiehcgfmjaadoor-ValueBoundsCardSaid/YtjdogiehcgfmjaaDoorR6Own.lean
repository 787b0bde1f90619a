/-
  entrepotref1.May at any sign and number; entrepotref6.own, kind by kind.
-/
import Derived.Test.YtjdogiehcgfmjaaDoorValOwn
import Derived.Test.YtjdogiehcgfmjaaDoorRefClass
import Derived.Lib.QuietBelow
import Derived.BigQuiet
namespace Go.Proofs.YtjdogiehcgfmjaaDoor
open Go.RowKit Go.Shelf
open Go.Sort (grow)
attribute [local go_sem ↓] eql_nat neq_nat eql_int5 neq_int5

theorem eq_ret {e : Ending} {b c : Bool} {P : Prop} (h : e = .returned (.bool b)) (hb : b = c) (hp : P) : e = .returned (.bool c) ∧ P := ⟨h.trans (ret_bool hb), hp⟩

end Go.Proofs.YtjdogiehcgfmjaaDoor
