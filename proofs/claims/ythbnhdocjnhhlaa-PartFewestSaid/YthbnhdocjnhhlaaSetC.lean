/- The library's slices.SortFunc at ranges by their beginnings: what a row of the call's own holds behind it. -/
import Derived.Test.YthbnhdocjnhhlaaSetA
import Derived.Test.YthbnhdocjnhhlaaShelf
import Derived.Sort.OwnSorted
import Derived.BigCall
namespace Go.Proofs.Ythbnhdocjnhhlaa
open Go Go.RowKit

end Go.Proofs.Ythbnhdocjnhhlaa
