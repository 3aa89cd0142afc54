/-
  Small things of floats and of hiding that many texts share.
-/
import Derived.Test.YtgpaajdfkekjiabBase
import Derived.ProofKit
import Derived.Deep.OwnRows
import Derived.Laws.AppendOwn
namespace Go.Proofs.Ytgpaajdfkekjiab
open Go.RowKit

theorem hidK {p : Prop} (h : p) : Hid p := h
theorem run_store_flt (P : Program) (w : World) (a : Addr) (m : Mode) (k : FloatKind) (b : Nat) : (store a (.float k b) m).run P w = stored P w a (.float k b) m := run_store P w a _ m rfl
theorem Try.infoFloat : (Try.prog.info? 34).map (fun i => (i.zero, i.size, i.bytes)) = some (some (.float .f64 0), 1, 8) := by kernel_rfl
def fvals (xs : List Nat) : List Value := xs.map fun x => .float .f64 x

end Go.Proofs.Ytgpaajdfkekjiab
