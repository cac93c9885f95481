import Derived.Test.YthfhmohbfoolnaaKd
import Derived.Test.YthfhmohbfoolnaaTm
namespace Go.Proofs.Ythfhmohbfoolnaa
/-! The library's sort at []uint32: sortU_any, sortU_nil lie in Tm. -/
end Go.Proofs.Ythfhmohbfoolnaa
