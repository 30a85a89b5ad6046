/- A part of the law. -/
import Derived.Test.YtgfdijemhanfkaaGreatDoorLawChunksSumsM
import Derived.Test.YtgfdijemhanfkaaGreatDoorP8
import Derived.Test.YtgfdijemhanfkaaGreatDoorPTk
set_option linter.unusedSimpArgs false
set_option linter.unusedVariables false
set_option maxRecDepth 100000
set_option maxHeartbeats 8000000
namespace Go.Proofs.YtgfdijemhanfkaaGreatDoor
open _root_.Go.Proofs.Tryz
open Bool renaming and_eq_true->fk
set_option maxRecDepth 100000
open Go.ChangeShapes Go.WideShapes Go.ChangeAt Go.RowKit Lib
theorem VT {m:Int} (h:(Lit.int .i8 m).wf=true):(-128:Int)<=m/\m<=127:=by simp only[Lit.wf,fk,decide_eq_true_eq] at h;obtain⟨H,a⟩:=h;exact⟨H,a⟩
theorem Zd {H:Type} {enc:TypeId×Value->H} {W:World} {base:Nat} {v:Value} {d:DataW H} {p:List MemPlace}
  (hval:Value.okWide prog W .any base 22 v) (hd:DataW.Trod enc prog W 0 (fun _=>true) true 22 v d p):∃l,OL W v l:=by
 obtain⟨a,n,cap,rfl⟩:=okWide_slice underlying22 hval;obtain⟨f,hf⟩:=hd
 obtain⟨l,a,cap,e,b,g,h3⟩:=Qo (W:=W) (fun x:Int=>[Value.int .i8 x]) (fun x=>-128<=x/\x<=127) underlying22 (c:=1) η ξ (fun n cs y hl h=>by
  obtain⟨x,e,_,i⟩:=DataW.trod_int underlying37 h;exact⟨x,e,VT i⟩) hf
 exact⟨l,a,cap,e,b,g,h3⟩
end Go.Proofs.YtgfdijemhanfkaaGreatDoor
