/- A premise, hidden. -/
import Derived.Test.YtckmppkdpnhodaaGreatDoorProg
import Derived.Below
namespace Go.Proofs.YtckmppkdpnhodaaGreatDoor
open Go.RowKit Go.Proofs
theorem hid{p:Prop}(h:p):Hid p:=h
end Go.Proofs.YtckmppkdpnhodaaGreatDoor
