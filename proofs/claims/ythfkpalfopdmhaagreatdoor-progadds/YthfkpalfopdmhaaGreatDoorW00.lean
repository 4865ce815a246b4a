/- What is put by. -/
import Derived.Lib.Hide
namespace Go.Proofs.YthfkpalfopdmhaaGreatDoor
theorem AA {p:Prop} (h:p):Go.RowKit.Hid p:=Lib.hid h
end Go.Proofs.YthfkpalfopdmhaaGreatDoor
