/- A part of the law. -/
import Derived.Test.YtgfdijemhanfkaaGreatDoorP8
import Derived.Test.YtgfdijemhanfkaaGreatDoorP3
import Derived.Test.YtgfdijemhanfkaaGreatDoorPTk
set_option maxRecDepth 100000
set_option maxHeartbeats 8000000
namespace Go.Proofs.YtgfdijemhanfkaaGreatDoor
open _root_.Go.Proofs.Tryz
open Option renaming some→av
open List renaming length_map->aL,getElem_map->gS
open Nat renaming mul_one->eR
set_option maxRecDepth 100000
open Go.RowKit Go.ChangeShapes Go.WideShapes Go.ChangeAt Lib
theorem VV {H:Type} {enc:TypeId×Value->H} {W:World} {n:Nat} {cs:List Value} {y:DataW H×List MemPlace} (q:cs.length=1)
  (h:DataW.trod enc prog W 0 (fun _=>true) true n 9 cs=av y):∃x:ByteArray,cs=[.string x]/\True:=by
 match cs,q with
 |[v],_=>obtain⟨s,e,_,_⟩:=DataW.trod_string underlying9 h;exact⟨s,e,trivial⟩
theorem S9 {H:Type} {enc:TypeId×Value->H} {W:World} {base:Nat} {v:Value} {d:DataW H} {p:List MemPlace}
  (hval:Value.okWide prog W .any base 44 v) (hd:DataW.Trod enc prog W 0 (fun _=>true) true 44 v d p):∃l:List (List UInt8),Reads W v l:=by
 obtain⟨a,n,cap,rfl⟩:=okWide_slice underlying44 hval;obtain⟨f,hf⟩:=hd;obtain⟨l,a,cap,e,b,r,h3⟩:=Qo (W:=W) (fun x:ByteArray=>[.string x]) (fun _=>True) underlying44 (c:=1) η ξ (fun n cs y hl h=>VV hl h) hf;refine⟨l.map (fun x=>x.data.toList),a,cap,by rw[aL];exact e,by rw[aL];exact b,fun i hi=> ?_⟩;obtain⟨_,g,o,k,K,m⟩:=h3 i (by simpa using hi);refine⟨g,o,k,K,fun j q=> ?_⟩;have:=m j (by simpa using q) 0 ξ;rw[eR,Nat.add_zero] at this;rw[gS];exact this
end Go.Proofs.YtgfdijemhanfkaaGreatDoor
