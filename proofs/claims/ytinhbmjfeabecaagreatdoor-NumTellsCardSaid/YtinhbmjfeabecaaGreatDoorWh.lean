import Derived.Test.YtinhbmjfeabecaaGreatDoorWg
import Derived.Test.YtinhbmjfeabecaaGreatDoorPint
namespace Go.Proofs.YtinhbmjfeabecaaGreatDoor
open Go.RowKit

/-- The width behind one. -/
def nextW (w : Int) : Int := if w = 8 then 16 else if w = 16 then 32 else if w = 32 then 64 else 128
/-- The least width of an int64. -/
def leastW (x : Int) : Int := if Fit x 8 then 8 else if Fit x 16 then 16 else if Fit x 32 then 32 else if Fit x 64 then 64 else 128
/-- What a text is as an int64, in a world that goes on. -/
def IntW (s : ByteArray) (x : Int) (v : Bool) (W : World) : Prop := Calls Tryz.prog 6 #[.string s] W fun e W' => e = .returned (.tuple #[.int .i64 x, .bool v]) ∧ Below W.heap.size W W'
end Go.Proofs.YtinhbmjfeabecaaGreatDoor
