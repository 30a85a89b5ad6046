/- Elder texts, cut down and merged (12). -/
import Derived.Shelf.Strings.BuilderK
import Derived.Test.YtgfdijemhanfkaaGreatDoorChecked
import Derived.Test.YtgfdijemhanfkaaGreatDoorPTk
set_option maxRecDepth 100000
set_option maxHeartbeats 8000000
namespace Go.Proofs.YtgfdijemhanfkaaGreatDoor
open _root_.Go.Proofs.Tryz
open Option renaming some→av,none→aK
open Value renaming string→cu,pointer→dr
open Ending renaming returned→c8
section
open Go.Shelf Go.RowKit
def Cc:Go.Shelf.Ren:=⟨fun|169=>173|n=>n,fun|70=>253|9=>9|0=>0|72=>255|37=>151|127=>276|3=>3|5=>5|n=>n,fun|n=>n⟩
theorem Js:Go.Proofs.Lays.n169 prog Cc:={
 mixed:=η
 f169:=func173.trans (congrArg av η)
 t0:=underlying0
 a0:=Tryz.isAgg0
 z0:=sizeOf0
 v0:=Tryz.zeroValue0
 t3:=underlying3
 a3:=Tryz.isAgg3
 z3:=sizeOf3
 v3:=Tryz.zeroValue3
 t9:=underlying9
 a9:=Tryz.isAgg9
 z9:=sizeOf9
 v9:=Tryz.zeroValue9
 t37:=underlying151
 a37:=Tryz.isAgg151
 z37:=sizeOf151
 v37:=Tryz.zeroValue151
 t70:=underlying253
 a70:=Tryz.isAgg253
 z70:=sizeOf253
 v70:=Tryz.zeroValue253
 t72:=underlying255
 a72:=Tryz.isAgg255
 z72:=sizeOf255
 v72:=Tryz.zeroValue255
 t127:=underlying276
 a127:=Tryz.isAgg276
 z127:=sizeOf276
 v127:=Tryz.zeroValue276}
theorem FI:Builder.Extra prog Cc:={
 sizeBuilder:=η
 liesBuilder:=η
 t5:=underlying5
 a5:=Tryz.isAgg5
 z5:=sizeOf5
 v5:=Tryz.zeroValue5
 infoByte:=η
 cellsByte:=η
 sizeByte:=η
 neB5:=ξ}
theorem zA (B b:Nat) (l:List UInt8) (w:World) (h:Lib.IsBuilderF 255 5 B b (Lib.byteCells l) w) (H:B<=w.heap.size):
  Calls prog 173 #[dr (av ⟨b,0,aK⟩)] w fun e w'=>e=c8 (cu ⟨l.toArray⟩)/\(Lib.IsBuilderF 255 5 B b (Lib.byteCells l) w'/\Below B w w'/\Lib.OthersKept 5 (av b) w w'):=Any.Builder_String_any_k Js FI B b l w h H
end
end Go.Proofs.YtgfdijemhanfkaaGreatDoor
