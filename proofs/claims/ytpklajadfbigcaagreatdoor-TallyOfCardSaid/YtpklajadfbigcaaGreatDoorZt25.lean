import Derived.Test.YtpklajadfbigcaaGreatDoorZt24
import Derived.Test.YtpklajadfbigcaaGreatDoorZt19
import Derived.Deep.RegionHeld
import Derived.Test.YtpklajadfbigcaaGreatDoorZt23
import Derived.Laws.OwnMore
import Derived.Test.YtpklajadfbigcaaGreatDoorZt16
set_option linter.unusedSimpArgs false
set_option linter.unusedVariables false
namespace Go.Proofs.YtpklajadfbigcaaGreatDoor
open Go.RowKit

def Itm.c (x : Itm) : List Value := [.int .i64 x.agg, .string x.col, .int .i64 x.pos]
def Kyo.c (x : Kyo) : List Value := [.int .i64 x.item.agg, .string x.item.col, .int .i64 x.item.pos, .bool x.desc]
end Go.Proofs.YtpklajadfbigcaaGreatDoor
namespace Go.Proofs.YtpklajadfbigcaaGreatDoor
open Go.RowKit

end Go.Proofs.YtpklajadfbigcaaGreatDoor
namespace Go.Proofs.YtpklajadfbigcaaGreatDoor
open Go.RowKit
end Go.Proofs.YtpklajadfbigcaaGreatDoor
namespace Go.Proofs.YtpklajadfbigcaaGreatDoor
open Go.RowKit

end Go.Proofs.YtpklajadfbigcaaGreatDoor
namespace Go.Proofs.YtpklajadfbigcaaGreatDoor
open Go.RowKit

end Go.Proofs.YtpklajadfbigcaaGreatDoor
namespace Go.Proofs.YtpklajadfbigcaaGreatDoor
open Go.RowKit

end Go.Proofs.YtpklajadfbigcaaGreatDoor
namespace Go.Proofs.YtpklajadfbigcaaGreatDoor
open Go.RowKit

end Go.Proofs.YtpklajadfbigcaaGreatDoor
namespace Go.Proofs.YtpklajadfbigcaaGreatDoor
open Go.RowKit
end Go.Proofs.YtpklajadfbigcaaGreatDoor
