import Derived.Test.YtohjebjlpmacdaaGreatDoorS21
namespace Go.Proofs.YtohjebjlpmacdaaGreatDoor
open Go.RowKit

end Go.Proofs.YtohjebjlpmacdaaGreatDoor
