import Derived.Test.YthphojdnbfghmaaVer2
namespace Go.Proofs.Ythphojdnbfghmaa
open Go.RowKit

end Go.Proofs.Ythphojdnbfghmaa
