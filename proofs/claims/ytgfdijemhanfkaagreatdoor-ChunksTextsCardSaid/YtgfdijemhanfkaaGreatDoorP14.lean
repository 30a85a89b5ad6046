/- Elder texts, cut down and merged (14). -/
import Derived.Test.YtgfdijemhanfkaaGreatDoorP3
import Derived.Lib.Hide
import Derived.Lib.Strings
import Derived.Lib.Walk
import Derived.Lib.BufferWrite
import Derived.Lib.UnsafeStr
import Derived.Laws.MakeOwn
import Derived.Test.YtgfdijemhanfkaaGreatDoorPTk
set_option maxRecDepth 100000
set_option maxHeartbeats 8000000
namespace Go.Proofs.YtgfdijemhanfkaaGreatDoor
open _root_.Go.Proofs.Tryz
open IntKind renaming u8→eD
open Ending renaming returned→c8
open Obj renaming cells→dg
open Option renaming none→aK,some→av
open Value renaming string→cu
open List renaming replicate->aV,nil_append->cM,append_nil->bh,take_of_length_le->bD
open Nat renaming le_refl->af
open _root_.Array renaming length_toList->aU
section
open Go.RowKit Lib
theorem DG (s:ByteArray) (w:World) (H:s.size<=1000000):
  Calls prog 144 #[.string s] w fun e w'=>e=c8 (.string s)/\Below w.heap.size w w':=by
 by_cases l:s.size=0
 ·have hs:s=⟨#[]⟩:=by apply ByteArray.ext;exact Array.eq_empty_of_size_eq_zero l
  subst hs;go_enter func144,ntmps144;go_wp2;go_ret;exact⟨rfl,Below.refl _ _⟩
 ·have h:(prog.info? 5).map (·.size)=av 1:=by kernel_rfl
  have b:prog.cellsOf 5=1:=η
  obtain⟨M,c⟩:=ξx ((aV s.size (Value.int eD 0)).toArray);have n:M.size=s.size:=by rw[c];simp
  have d:=fun W:World=>yG W s.size H;rw[<-c] at d;clear c;have B:=Lib.run_copy_row_string (P:=prog) (w.alloc (dg M 5)) 151 9 3 5 w.heap.size 0 s.size s.size s M 5 underlying151 h (heap_alloc_new w _) (af _) κ;obtain⟨Y,f⟩:=ξx ((M.toList.take 0++Lib.byteCells s.data.toList++M.toList.drop (0+s.size)).toArray);rw[<-f] at B;have m:Y.toList=Lib.byteCells s.data.toList:=by rw[f,List.toList_toArray,List.take_zero,cM,List.drop_of_length_le (by rw[aU];omega),bh]
  have o:Y.size=s.size:=by rw[<-aU,m,Lib.byteCells_length,<-Lib.size_eq]
  have a:((w.alloc (dg M 5)).setRow w.heap.size Y).heap[w.heap.size]?=av (dg Y 5 (0,0)):=setRow_heap _ _ M _ 5 (0,0) (heap_alloc_new w _);have g:s.data.toList≠[]:=fun e=>l (by rw[Lib.size_eq,e];rfl)
  have i:=Lib.run_unsafeString_row (P:=prog) ((w.alloc (dg M 5)).setRow w.heap.size Y) 276 3 9 5 underlying276 b w.heap.size Y.size (by unfold World.shape?;rw[a]) s.data.toList g (by rw[<-Lib.size_eq];omega) (by rw[<-Lib.size_eq];omega)
   (fun j x q=>Lib.cells_of_row a Y.size j _ (by rw[bD zaQ,m];simp[Lib.byteCells,q]))
  rw[<-Lib.size_eq] at i;clear f;go_enter func144,ntmps144;go_wp2;go_ret;have A:Below w.heap.size w (w.alloc (dg M 5)):=(Below.refl _ w).alloc (af _) _;have r:Below w.heap.size (w.alloc (dg M 5)) ((w.alloc (dg M 5)).setRow w.heap.size Y):=⟨rfl,rfl,rfl,ν,fun k t=>setRow_other _ _ _ _ κ⟩;exact⟨rfl,Lib.below_freeze (A.trans r) (p:=⟨w.heap.size,0,aK⟩) (af _) _⟩
theorem zC (s:ByteArray) (w:World) (h:s.size<=1000000):
  Calls prog 93 #[cu s] w fun e w'=>e=c8 (cu s)/\Below w.heap.size w w':=by
 go_enter func93,ntmps93;go_wp2_with fail;refine (DG s w h).mono ?_;rintro e w1 ⟨rfl,H⟩;have a:=aa H;clear H;go_wp2;go_ret;exact⟨rfl,a.o⟩
end
end Go.Proofs.YtgfdijemhanfkaaGreatDoor
